import PyProof.Rows.All
import Wide.All
import OpenK.AllK
import Wide.FinOn
import HandS.ForMost
import HandS.Walk
import HandS.Zip
import KE.GoesEnum
import HandS.Wide
import HandS.IsInst
import HandS.Codes
import HandS.TupAny
import HandS.TupMul
import HandS.Conv
import HandS.Flow
import PyProof.TypeEq
import PyProof.InstEq
import PyProof.TypeOfCall
import HandS.Star
import KE.KDictZip
import HandS.ForExc
import HandS.FStr
import HandS.Small
import HandS.ExcIs
import HandS.Property
import PySem.Challenge.RW_loopwords_k05_tasks_told
set_option Elab.async false
set_option linter.all false
set_option maxRecDepth 100000
set_option maxHeartbeats 4000000
/-! zip of a list or a tuple with a list or a tuple; enumerate of a list or a tuple. -/
namespace LW
open PySem PySem.Spec PyProof.Rows L2

/-- true: a tuple; false: a list -/
def Sd (K : PySem.W.Frag) : Bool → Hp → Addr → List V → Prop
  | true, H, a, xs => SqT K H a xs
  | false, H, a, xs => SqL K H a xs
def SdIt : Bool → Heap → Addr → Addr → Nat → Prop
  | true, h, it, a, i => h.IsTupleIter it a i
  | false, h, it, a, i => h.IsListIter it a i
def SdAt : Bool → Heap → Addr → Array Value → Prop
  | true, h, a, its => h.IsTuple a its
  | false, h, a, its => h.IsList a its
def sdObj : Bool → Addr → Obj
  | true, a => { cls := .type "tuple_iterator", data := .fields #[.ref a, .int 0 0] }
  | false, a => { cls := .type "list_iterator", data := .fields #[.ref a, .int 0 0] }

theorem sd_begins (b : Bool) (a : Addr) (its : Array Value) : Begins (.ref a) (sdObj b a) (fun h => SdAt b h a its) := by
  cases b with
  | true => exact begins_tuple a its
  | false => exact begins_list a its
theorem sd_draws {prog : Program} {w : World} {A : Around} (b : Bool) (hh : A.handled = none) (it a : Addr) (hne : a ≠ it) (its : Array Value) :
    Draws prog w A it [it, a] its.size (fun i v => its[i]? = some v) (fun i h => SdIt b h it a i ∧ SdAt b h a its) := by
  cases b with
  | true => exact Draws.tuple hh it a hne its
  | false => exact Draws.list hh it a hne its
theorem sd_it0 {b : Bool} {h : Heap} {it a : Addr} (e : h.get? it = some (sdObj b a)) : SdIt b h it a 0 := by
  cases b with
  | true => exact ⟨_, e, rfl, rfl⟩
  | false => exact ⟨_, e, rfl, rfl⟩
theorem sd_live {b : Bool} {h : Heap} {it a : Addr} {i : Nat} (s : SdIt b h it a i) : ∃ o, h.get? it = some o ∧ ∀ v, o.data ≠ .cell v := by
  cases b with
  | true =>
    obtain ⟨o, e, _, d⟩ := s
    exact ⟨o, e, fun v z => by rw [d] at z; cases z⟩
  | false =>
    obtain ⟨o, e, _, d⟩ := s
    exact ⟨o, e, fun v z => by rw [d] at z; cases z⟩
theorem sd_over {b : Bool} {h h' : Heap} {it a : Addr} {i : Nat} (s : SdIt b h it a i) (k : ∀ o, h.get? it = some o → h'.get? it = some o) : SdIt b h' it a i := by
  cases b with
  | true => exact Heap.IsTupleIter.at s k
  | false => exact Heap.IsListIter.at s k
theorem sd_data {X : Cx} {pins : List (Addr × Obj)} {σ : L2.St} {H : Hp} {s : Shared} {b : Bool} {a : Addr} {xs : List V} (I : Inv X pins σ H s) (q : Sd X.K b H a xs) :
    ∃ its : List Value, Vals xs its ∧ SdAt b s.heap a its.toArray ∧ a < s.heap.objs.size := by
  cases b with
  | true =>
    obtain ⟨its, rv, p, _⟩ := I.tuple q
    obtain ⟨o, ho, _⟩ := id p
    exact ⟨its, rv, p, Heap.lt_size ho⟩
  | false =>
    obtain ⟨its, rv, p, _⟩ := I.list q
    exact ⟨its, rv, p.isList, p.lt⟩
theorem sd_inj {X : Cx} {pins : List (Addr × Obj)} {σ : L2.St} {H : Hp} {s : Shared} {b : Bool} {a : Addr} {xs ys : List V} (I : Inv X pins σ H s) (q : Sd X.K b H a xs) (q' : Sd X.K b H a ys) : xs = ys := by
  cases b with
  | true => exact I.tuple_inj q q'
  | false => exact I.list_inj q q'

/-! ### zip -/
def ItZ (K : PySem.W.Frag) (b1 b2 : Bool) (a c : Addr) : It :=
  ⟨fun i H => ∃ (xs ys : List V) (x y : V), Sd K b1 H a xs ∧ Sd K b2 H c ys ∧ xs[i]? = some x ∧ ys[i]? = some y,
    fun i H v H' => ∃ T x y, v = .ref T ∧ H T = none ∧ H' = upd H T (.tup [x, y]) ∧ (∀ xs, Sd K b1 H a xs → xs[i]? = some x) ∧ ∀ ys, Sd K b2 H c ys → ys[i]? = some y,
    fun i H => ∃ xs ys : List V, Sd K b1 H a xs ∧ Sd K b2 H c ys ∧ i ≤ xs.length ∧ i ≤ ys.length ∧ (xs.length = i ∨ ys.length = i)⟩
/-- the zip's five cells lie apart from one another and from what is zipped -/
structure Apart5 (z TI TO i1 i2 a c : Addr) : Prop where
  sep : ZipSep2 z TI TO i1 i2 [i1, a] [i2, c]
  a1 : a ≠ i1
  c2 : c ≠ i2
theorem apart_new {n a c : Nat} (ha : a < n) (hc : c < n) : Apart5 (n + 4) (n + 2) (n + 3) n (n + 1) a c :=
  ⟨zip_sep2 (N := n) (fp1 := [a]) (fp2 := [c]) (fun b hb => by rw [List.mem_singleton.mp hb]; exact ha) (fun b hb => by rw [List.mem_singleton.mp hb]; exact hc),
    fun e => by have e' : (a : Nat) = n := e; omega, fun e => by have e' : (c : Nat) = n + 1 := e; omega⟩
def ZSt (b1 b2 : Bool) (z TI TO i1 i2 a c : Addr) (i : Nat) (h : Heap) : Prop :=
  IsZip h z TI TO .none ∧ IsTupOf2 h TI (.ref i1) (.ref i2) ∧ (∃ x y, IsTupOf2 h TO x y) ∧ SdIt b1 h i1 a i ∧ SdIt b2 h i2 c i
theorem five {z TI TO i1 i2 c : Addr} (h : c ∈ [z, TI, TO, i1, i2]) : c = z ∨ c = TI ∨ c = TO ∨ c = i1 ∨ c = i2 := by simpa using h
theorem turnZ {P : Program} {w : World} {K : PySem.W.Frag} {elts : List Expr} {kk : Nat} {tpos : Pos} {b1 b2 : Bool} {a c z TI TO i1 i2 : Addr} (D : Apart5 z TI TO i1 i2 a c) :
    Turn P w K (.Tuple elts kk tpos) (ItZ K b1 b2 a c) [z, TI, TO, i1, i2] z (ZSt b1 b2 z TI TO i1 i2 a c) where
  mem := List.mem_cons_self ..
  obj := by
    intro i h st d hd
    obtain ⟨qz, qI, ⟨x, y, qO⟩, q1, q2⟩ := st
    rcases five hd with rfl | rfl | rfl | rfl | rfl
    · exact ⟨_, qz, fun v q => nomatch q⟩
    · exact ⟨_, qI, fun v q => nomatch q⟩
    · exact ⟨_, qO, fun v q => nomatch q⟩
    · exact sd_live q1
    · exact sd_live q2
  keep := by
    intro i h h' st k
    obtain ⟨qz, qI, ⟨x, y, qO⟩, q1, q2⟩ := st
    exact ⟨k z (by simp) _ qz, k TI (by simp) _ qI, ⟨x, y, k TO (by simp) _ qO⟩, sd_over q1 fun o e => k i1 (by simp) o e, sd_over q2 fun o e => k i2 (by simp) o e⟩
  item := by
    intro X hP hw hK hc i pins s σ H E I hf st hg
    subst hP hw hK
    obtain ⟨qz, qI, ⟨x0, y0, qO⟩, q1, q2⟩ := st
    obtain ⟨xs, ys, x, y, hqx, hqy, hx, hy⟩ := hg
    obtain ⟨us, rv, d1, la⟩ := sd_data I hqx
    obtain ⟨ws, rv2, d2, lc⟩ := sd_data I hqy
    obtain ⟨u, hu, ru⟩ := rv.get hx
    obtain ⟨u2, hu2, ru2⟩ := rv2.get hy
    have h1 : i < us.toArray.size := by
      obtain ⟨q, _⟩ := List.getElem?_eq_some_iff.mp hu
      simpa using q
    have h2 : i < ws.toArray.size := by
      obtain ⟨q, _⟩ := List.getElem?_eq_some_iff.mp hu2
      simpa using q
    have zl : z < s.heap.objs.size := Heap.lt_size qz
    refine wpAny_pyNext_zipD2_item D.sep (sd_draws (prog := X.prog) (w := X.w) (A := X.A.in1) b1 (I.ok.hd hc) i1 a D.a1 us.toArray) (sd_draws (prog := X.prog) (w := X.w) (A := X.A.in1) b2 (I.ok.hd hc) i2 c D.c2 ws.toArray) qz qI qO ⟨q1, d1⟩ ⟨q2, d2⟩ h1 h2 fun v1 v2 h' tk e1 e2 z' O' n1 n2 T' hsz hk => ?_
    have ev1 : v1 = u := Option.some.inj (e1.symm.trans (by simpa using hu))
    have ev2 : v2 = u2 := Option.some.inj (e2.symm.trans (by simpa using hu2))
    subst ev1 ev2
    refine ⟨_, rfl, wpAny_letOwnedTupleGo_zip (s := { s with heap := h', toks := tk }) z' fun h'' z'' sb => ?_⟩
    have hT2 : h''.get? s.heap.objs.size = some { cls := .type "tuple", data := .seq #[v1, v2] } := (sb.2 _ (Nat.ne_of_gt zl)).trans T'
    have new : ObjOk X.prog X.w (upd H s.heap.objs.size (.tup [x, y])) h'' s.heap.objs.size (.tup [x, y]) :=
      ⟨by show 2 ≤ sizeLine; decide, [v1, v2], .cons ru (.cons ru2 .nil), ⟨_, hT2, rfl, _, rfl⟩⟩
    have I1 : Inv X pins σ (upd H s.heap.objs.size (.tup [x, y])) { s with heap := h'', toks := tk } :=
      I.turnedNew (t' := tk) (ch := [z, TI, TO, i1, i2]) (fun d o nd q => by
        have nn : d ≠ z ∧ d ≠ TI ∧ d ≠ TO ∧ d ≠ i1 ∧ d ≠ i2 := by simpa using nd
        exact (sb.2 d nn.1).trans (hk d o nn.1 nn.2.2.1 nn.2.2.2.1 nn.2.2.2.2 q)) hf (Nat.le_refl _) new
    refine ⟨.ref s.heap.objs.size, _, I1, rfl, ⟨_, x, y, rfl, I.hok.fresh (Nat.le_refl _), rfl, fun l hl => by rw [sd_inj I hl hqx]; exact hx, fun l hl => by rw [sd_inj I hl hqy]; exact hy⟩,
      ⟨z'', (sb.2 _ D.sep.TIz).trans (hk _ _ D.sep.TIz D.sep.TITO D.sep.TIi1 D.sep.TIi2 qI), ⟨v1, v2, (sb.2 _ D.sep.TOz).trans O'⟩,
        sd_over n1.1 fun o q => (sb.2 _ fun e => D.sep.zf1 (by rw [← e]; exact D.sep.mem1)).trans q, sd_over n2.1 fun o q => (sb.2 _ fun e => D.sep.zf2 (by rw [← e]; exact D.sep.mem2)).trans q⟩, fun d hd => ?_⟩
    have dl : d < s.heap.objs.size := by
      rcases five hd with rfl | rfl | rfl | rfl | rfl
      · exact zl
      · exact Heap.lt_size qI
      · exact Heap.lt_size qO
      · obtain ⟨_, e, _⟩ := sd_live q1
        exact Heap.lt_size e
      · obtain ⟨_, e, _⟩ := sd_live q2
        exact Heap.lt_size e
    rw [upd_ne (Nat.ne_of_lt dl)]
    exact (hf d hd).1
  done := by
    intro X hP hw hK hc i pins s σ H E I hf st hg
    subst hP hw hK
    obtain ⟨qz, qI, ⟨x0, y0, qO⟩, q1, q2⟩ := st
    obtain ⟨xs, ys, hqx, hqy, l1, l2, hend⟩ := hg
    obtain ⟨us, rv, d1, la⟩ := sd_data I hqx
    obtain ⟨ws, rv2, d2, lc⟩ := sd_data I hqy
    have m1 := rv.length
    have m2 := rv2.length
    refine wpAny_pyNext_zipD2_end D.sep (sd_draws (prog := X.prog) (w := X.w) (A := X.A.in1) b1 (I.ok.hd hc) i1 a D.a1 us.toArray) (sd_draws (prog := X.prog) (w := X.w) (A := X.A.in1) b2 (I.ok.hd hc) i2 c D.c2 ws.toArray) qz qI qO ⟨q1, d1⟩ ⟨q2, d2⟩ (by simp; omega) (by simp; omega) (by simp; omega) fun h' tk hk => ⟨rfl, ?_⟩
    exact I.turnedL (t' := tk) (ch := [z, TI, TO, i1, i2]) (fun d o nd q => by
      have nn : d ≠ z ∧ d ≠ TI ∧ d ≠ TO ∧ d ≠ i1 ∧ d ≠ i2 := by simpa using nd
      exact hk d o nn.1 nn.2.2.1 nn.2.2.2.1 nn.2.2.2.2 q) hf
  self := fun A i s Q E st h => wpAny_pyIter_zip st.1 h
def iZ (K : PySem.W.Frag) (ta : TA) (b1 b2 : Bool) : TI := fun σ H R => ta σ H fun vs H1 => ∃ a c xs ys, vs = [.ref a, .ref c] ∧ Sd K b1 H1 a xs ∧ Sd K b2 H1 c ys ∧ R (ItZ K b1 b2 a c) H1
theorem piZ {X : Cx} {e e2 : Expr} {ta : TA} {p pos tpos : Pos} {elts : List Expr} {kk : Nat} (b1 b2 : Bool) (hg : Gl X "zip") (hm : X.mg "zip" = none) (ha : PA X [e, e2] ta)
    (hs : starEach [e, e2] X.env = (false, eval e X.env) :: starEach [e2] X.env := by rfl) (hpl : (backTo pos (starEach [e2] X.env)).any (·.1) = false := by rfl) :
    PI X (.Tuple elts kk tpos) (.Call (.Name "zip" p) [e, e2] [] pos) (iZ X.K ta b1 b2) := by
  constructor
  intro pins s σ H R I h
  refine Call_ (ld_blt I hg hm PyProof.Rows.boot_zip (PyProof.Rows.callWith_type1 (thn (ha.run pos pins s σ H _ I h) fun us s1 hyp => ?_) hs hpl))
  obtain ⟨vs, H1, I1, r1, a, c, xs, ys, rfl, hqx, hqy, q⟩ := hyp
  match us, r1 with
  | [_, _], .cons rfl (.cons rfl .nil) =>
    obtain ⟨us, rv, d1, la⟩ := sd_data I1 hqx
    obtain ⟨ws, rv2, d2, lc⟩ := sd_data I1 hqy
    refine zip_begins2 (sd_begins b1 a us.toArray) (sd_begins b2 c ws.toArray) d1 d2 fun h' hz hTI hTO h1 h2 hsz hk => wpAny_pyIter_zip hz ?_
    refine ⟨s1.heap.objs.size + 4, [s1.heap.objs.size + 4, s1.heap.objs.size + 2, s1.heap.objs.size + 3, s1.heap.objs.size, s1.heap.objs.size + 1], _, _, H1, rfl, I1.kept (t' := s1.toks) hk,
      turnZ (b1 := b1) (b2 := b2) (apart_new la lc), ⟨hz, hTI, ⟨_, _, hTO⟩, sd_it0 h1, sd_it0 h2⟩, fun d hd => ?_, q⟩
    have hle : s1.heap.objs.size ≤ d := by
      rcases five hd with z | z | z | z | z <;> rw [z]
      · exact Nat.le_add_right _ _
      · exact Nat.le_add_right _ _
      · exact Nat.le_add_right _ _
      · exact Nat.le_refl _
      · exact Nat.le_add_right _ _
    exact I1.fpOk hle (I1.hok.fresh hle)
theorem walkZ {K : PySem.W.Frag} {b1 b2 : Bool} {a c : Addr} {xs ys : List V} {n : Nat} (hn : n = min xs.length ys.length) :
    Walk (ItZ K b1 b2 a c) n (fun H => Sd K b1 H a xs ∧ Sd K b2 H c ys) (YPair (fun i => xs[i]?) (fun i => ys[i]?)) := by
  subst hn
  refine ⟨fun i _ hi q => ?_, fun _ q => ⟨xs, ys, q.1, q.2, by omega, by omega, by omega⟩, fun i H v H' _ q y => ?_⟩
  · have h1 : i < xs.length := by omega
    have h2 : i < ys.length := by omega
    exact ⟨xs, ys, xs[i], ys[i], q.1, q.2, by simp [h1], by simp [h2]⟩
  · obtain ⟨T, x, z, e1, e2, e3, e4, e5⟩ := y
    exact ⟨T, x, z, e1, e2, e3, e4 xs q.1, e5 ys q.2⟩

/-! ### enumerate -/
def ItE (K : PySem.W.Frag) (b : Bool) (a : Addr) : It :=
  ⟨fun i H => ∃ (xs : List V) (x : V), Sd K b H a xs ∧ xs[i]? = some x,
    fun i H v H' => ∃ T x, v = .ref T ∧ H T = none ∧ H' = upd H T (.tup [.int (i : Nat), x]) ∧ ∀ xs, Sd K b H a xs → xs[i]? = some x,
    fun i H => ∃ xs : List V, Sd K b H a xs ∧ xs.length = i⟩
def ESt (b : Bool) (e it a : Addr) (i : Nat) (h : Heap) : Prop := (∃ old, IsEnum h e it (i : Int) old) ∧ SdIt b h it a i
theorem turnE {P : Program} {w : World} {K : PySem.W.Frag} {elts : List Expr} {kk : Nat} {tpos : Pos} {b : Bool} {a e it : Addr} (ne : e ≠ it) (nea : e ≠ a) (nia : a ≠ it) :
    Turn P w K (.Tuple elts kk tpos) (ItE K b a) [e, it] e (ESt b e it a) where
  mem := List.mem_cons_self ..
  obj := by
    intro i h st d hd
    obtain ⟨⟨old, qe⟩, q1⟩ := st
    have hd' : d = e ∨ d = it := by simpa using hd
    rcases hd' with rfl | rfl
    · exact ⟨_, qe, fun v q => nomatch q⟩
    · exact sd_live q1
  keep := by
    intro i h h' st k
    obtain ⟨⟨old, qe⟩, q1⟩ := st
    exact ⟨⟨old, k e (by simp) _ qe⟩, sd_over q1 fun o z => k it (by simp) o z⟩
  item := by
    intro X hP hw hK hc i pins s σ H E I hf st hg
    subst hP hw hK
    obtain ⟨⟨old, qe⟩, q1⟩ := st
    obtain ⟨xs, x, hqx, hx⟩ := hg
    obtain ⟨us, rv, d1, la⟩ := sd_data I hqx
    obtain ⟨u, hu, ru⟩ := rv.get hx
    have h1 : i < us.toArray.size := by
      obtain ⟨q, _⟩ := List.getElem?_eq_some_iff.mp hu
      simpa using q
    have el : e < s.heap.objs.size := Heap.lt_size qe
    refine wpAny_pyNext_enum_itemC (sd_draws (prog := X.prog) (w := X.w) (A := X.A.in1) b (I.ok.hd hc) it a nia us.toArray) qe ⟨q1, d1⟩ h1 ne (by simp [ne, nea]) fun v h' tk e1 o' n1 T' hsz hk => ?_
    have ev : v = u := Option.some.inj (e1.symm.trans (by simpa using hu))
    subst ev
    refine ⟨_, rfl, wpAny_letOwnedTupleGo_enum (s := { s with heap := h', toks := tk + 1 }) o' fun h'' e'' sb => ?_⟩
    have hT2 : h''.get? s.heap.objs.size = some { cls := .type "tuple", data := .seq #[.int i tk, v] } := (sb.2 _ (Nat.ne_of_gt el)).trans T'
    have new : ObjOk X.prog X.w (upd H s.heap.objs.size (.tup [.int (i : Nat), x])) h'' s.heap.objs.size (.tup [.int (i : Nat), x]) :=
      ⟨by show 2 ≤ sizeLine; decide, [.int i tk, v], .cons ⟨_, rfl⟩ (.cons ru .nil), ⟨_, hT2, rfl, _, rfl⟩⟩
    have I1 : Inv X pins σ (upd H s.heap.objs.size (.tup [.int (i : Nat), x])) { s with heap := h'', toks := tk + 1 } :=
      I.turnedNew (t' := tk + 1) (ch := [e, it]) (fun d o nd q => by
        have nn : d ≠ e ∧ d ≠ it := by simpa using nd
        exact (sb.2 d nn.1).trans (hk d o nn.1 nn.2 q)) hf (Nat.le_refl _) new
    refine ⟨.ref s.heap.objs.size, _, I1, rfl, ⟨_, x, rfl, I.hok.fresh (Nat.le_refl _), rfl, fun l hl => by rw [sd_inj I hl hqx]; exact hx⟩,
      ⟨⟨v, ?_⟩, sd_over n1.1 fun o q => (sb.2 _ (Ne.symm ne)).trans q⟩, fun d hd => ?_⟩
    · have e1 : ((i + 1 : Nat) : Int) = (i : Int) + 1 := by omega
      rw [e1]
      exact e''
    · have dl : d < s.heap.objs.size := by
        have hd' : d = e ∨ d = it := by simpa using hd
        rcases hd' with rfl | rfl
        · exact el
        · obtain ⟨_, z, _⟩ := sd_live q1
          exact Heap.lt_size z
      rw [upd_ne (Nat.ne_of_lt dl)]
      exact (hf d hd).1
  done := by
    intro X hP hw hK hc i pins s σ H E I hf st hg
    subst hP hw hK
    obtain ⟨⟨old, qe⟩, q1⟩ := st
    obtain ⟨xs, hqx, l1⟩ := hg
    obtain ⟨us, rv, d1, la⟩ := sd_data I hqx
    have m1 := rv.length
    have ei : i = us.toArray.size := by simp; omega
    subst ei
    refine wpAny_pyNext_enum_endD (sd_draws (prog := X.prog) (w := X.w) (A := X.A.in1) b (I.ok.hd hc) it a nia us.toArray) qe ⟨q1, d1⟩ fun h' hk => ⟨rfl, ?_⟩
    exact I.turnedL (t' := s.toks) (ch := [e, it]) (fun d o nd q => by
      have nn : d ≠ e ∧ d ≠ it := by simpa using nd
      exact hk d o nn.2 q) hf
  self := fun A i s Q E st h => let ⟨⟨_, he⟩, _⟩ := st; wpAny_pyIter_enum he h
theorem meets_enum1 {v : Value} {o : Obj} {G : Heap → Prop} (B : Begins v o G) (hv : ∀ x t, v ≠ .str x t) :
    Meets (Builtin.«enumerate.__new__» ⟨[.type "enumerate", v], []⟩) (fun _ R s => G s.heap ∧
      R (.ok (.ret (.ref (s.heap.push o).objs.size))) { s with heap := (s.heap.push o).push { cls := .type "enumerate", data := .fields #[.none, .bool false, .ref s.heap.objs.size, rawInt 0, .none, .none] } }) :=
  .of_wp fun prog w A R s h => by
    obtain ⟨hp, g, d, tk, os⟩ := s
    obtain ⟨h1, h⟩ := h
    have subE := sub_enumerate
    have step : ∀ {A' : Around} {E : Value → Shared → Prop} {Q : Value → Shared → Prop}, Q (.ref hp.objs.size) ⟨hp.push o, g, d, tk, os⟩ → wpAny (model prog w) A' (pyIter v) Q E ⟨hp, g, d, tk, os⟩ :=
      fun q => B.iter prog w _ _ ⟨hp, g, d, tk, os⟩ _ h1 q
    wp_walk using step
    refine wpAny_stack_any fun st => wpAny_pure ?_
    split
    · rename_i c _ _ _ _ _
      cases (c == Value.type "enumerate") <;> (wp_walk using step; exact ⟨_, rfl, h⟩)
    · wp_walk using step
      exact ⟨_, rfl, h⟩
theorem enum_starts {prog : Program} {w : World} {A : Around} {E : Value → Shared → Prop} {s : Shared} {v : Value} {o : Obj} {G : Heap → Prop} {Q : Value → Shared → Prop} (B : Begins v o G) (hv : ∀ x t, v ≠ .str x t) (h1 : G s.heap)
    (h : ∀ h', IsEnum h' (s.heap.objs.size + 1) s.heap.objs.size 0 .none → h'.get? s.heap.objs.size = some o → (∀ b u, s.heap.get? b = some u → h'.get? b = some u) → Q (.ref (s.heap.objs.size + 1)) { s with heap := h' }) :
    wpAny (model prog w) A (call (.type "enumerate") [v]) Q E s := by
  refine callType_new F.called_enumerate (by decide) (F.typeCall_enumerate_1 _) (F.newCall_enumerate_1 _) (fun obj => F.args_object_init_2 obj _) F.entry_enumerate_new
    (meets_enum1 B hv) ⟨h1, ?_⟩
  have hz : (s.heap.push o).objs.size = s.heap.objs.size + 1 := Heap.size_push ..
  show _ ∧ _
  rw [hz]
  have he := Heap.get?_push_size (s.heap.push o) (o := { cls := .type "enumerate", data := .fields #[.none, .bool false, .ref s.heap.objs.size, rawInt 0, .none, .none] }) rfl
  rw [hz] at he
  exact ⟨⟨_, he, rfl⟩, h _ he (Heap.get?_push_of_some _ (Heap.get?_push_size _ B.free)) fun b u x => Heap.get?_push_of_some _ (Heap.get?_push_of_some _ x)⟩
def iE (K : PySem.W.Frag) (ta : TA) (b : Bool) : TI := fun σ H R => ta σ H fun vs H1 => ∃ a xs, vs = [.ref a] ∧ Sd K b H1 a xs ∧ R (ItE K b a) H1
theorem piE {X : Cx} {e : Expr} {ta : TA} {p pos tpos : Pos} {elts : List Expr} {kk : Nat} (b : Bool) (hg : Gl X "enumerate") (hm : X.mg "enumerate" = none) (ha : PA X [e] ta) (hs : starEach [e] X.env = [(false, eval e X.env)] := by rfl) :
    PI X (.Tuple elts kk tpos) (.Call (.Name "enumerate" p) [e] [] pos) (iE X.K ta b) := by
  constructor
  intro pins s σ H R I h
  refine Call_ (ld_blt I hg hm boot_enumerate (PyProof.Rows.callWith_type1 (thn (ha.run pos pins s σ H _ I h) fun us s1 hyp => ?_) hs rfl))
  obtain ⟨vs, H1, I1, r1, a, xs, rfl, hqx, q⟩ := hyp
  match us, r1 with
  | [_], .cons rfl .nil =>
    obtain ⟨us, rv, d1, la⟩ := sd_data I1 hqx
    refine enum_starts (sd_begins b a us.toArray) (fun _ _ z => by cases z) d1 fun h' he hi hk => wpAny_pyIter_enum he ?_
    refine ⟨s1.heap.objs.size + 1, [s1.heap.objs.size + 1, s1.heap.objs.size], _, _, H1, rfl, I1.kept (t' := s1.toks) hk,
      turnE (b := b) (a := a) (Nat.succ_ne_self _) (Nat.ne_of_gt (Nat.lt_succ_of_lt la)) (Nat.ne_of_lt la), ⟨⟨.none, he⟩, sd_it0 hi⟩, fun d hd => ?_, q⟩
    have hd' : d = s1.heap.objs.size + 1 ∨ d = s1.heap.objs.size := by simpa using hd
    have hle : s1.heap.objs.size ≤ d := by
      rcases hd' with z | z <;> rw [z]
      · exact Nat.le_add_right _ _
      · exact Nat.le_refl _
    exact I1.fpOk hle (I1.hok.fresh hle)
theorem walkE {K : PySem.W.Frag} {b : Bool} {a : Addr} {xs : List V} :
    Walk (ItE K b a) xs.length (fun H => Sd K b H a xs) (YPair (fun i => some (.int (i : Nat))) (fun i => xs[i]?)) := by
  refine ⟨fun i _ hi q => ⟨xs, xs[i], q, by simp [hi]⟩, fun _ q => ⟨xs, q, rfl⟩, fun i H v H' _ q y => ?_⟩
  obtain ⟨T, x, e1, e2, e3, e4⟩ := y
  exact ⟨T, .int (i : Nat), x, e1, e2, e3, rfl, e4 xs q⟩
end LW

namespace LW
open PySem PySem.Spec PyProof.Rows L2

/-- the built-in names that the texts use are still the built-in ones -/
structure Bl (mg : Str → Option Value) : Prop where
  len : mg "len" = none
  range : mg "range" = none
  zip : mg "zip" = none
  enumerate : mg "enumerate" = none
  sum : mg "sum" = none
  all : mg "all" = none
  tuple : mg "tuple" = none
  list : mg "list" = none
  isinstance : mg "isinstance" = none
  int : mg "int" = none
  bool : mg "bool" = none
  str : mg "str" = none
  type : mg "type" = none

theorem tupS {K : PySem.W.Frag} {H H' : Hp} {a : Addr} {xs : List V} (e : Same H H') (h : SqT K H a xs) : SqT K H' a xs := by
  rcases h with (h | ⟨o, h⟩) | h
  · exact .inl (.inl (e _ _ h))
  · exact .inl (.inr ⟨o, e _ _ h⟩)
  · exact .inr h
theorem sameNew {H : Hp} {p : Addr} {o : HO} (h : H p = none) : Same H (upd H p o) := fun b x e => by
  rw [upd_ne (ne_of_none e h)]
  exact e
/-- H0 is kept though an object that it does not know changes -/
theorem sameMut {H0 H : Hp} {p : Addr} {o : HO} (s : Same H0 H) (h : H0 p = none) : Same H0 (upd H p o) := fun b x e => by
  rw [upd_ne (ne_of_none e h)]
  exact s b x e

/-! ### sums -/
abbrev Sm := List Int × Int
/-- at v stands the sum s -/
def SumIn (K : PySem.W.Frag) (H : Hp) (v : V) (s : Sm) : Prop := ∃ a t, v = .ref a ∧ SqT K H a [.ref t, .int s.2] ∧ SqT K H t (s.1.map V.int)
theorem SumIn.mono {K : PySem.W.Frag} {H H' : Hp} {v : V} {s : Sm} (e : Same H H') (h : SumIn K H v s) : SumIn K H' v s := by
  obtain ⟨a, t, rfl, h1, h2⟩ := h
  exact ⟨a, t, rfl, tupS e h1, tupS e h2⟩
def dot : List Int → List Int → Int
  | a :: r, b :: t => a * b + dot r t
  | _, _ => 0
def val (s : Sm) (xs : List Int) : Int := s.2 + dot s.1 xs
/-- below 2 ^ n in size -/
def Wd (n : Nat) (i : Int) : Prop := i.natAbs < 2 ^ n
theorem Wd.mono {n m : Nat} {i : Int} (h : Wd n i) (l : n ≤ m) : Wd m i := Nat.lt_of_lt_of_le h (Nat.pow_le_pow_right (by decide) l)
theorem Wd.mulOk {n m : Nat} {i j : Int} (h : Wd n i) (h' : Wd m j) (a : 0 < n) (b : 0 < m) (l : n + m ≤ 1000000) : CMulW i j := wide_mul h h' a b l
theorem Wd.mul {n m : Nat} {i j : Int} (h : Wd n i) (h' : Wd m j) : Wd (n + m) (i * j) := wide_lt h h'
theorem Wd.add {n : Nat} {i j : Int} (h : Wd n i) (h' : Wd n j) : Wd (n + 1) (i + j) := by
  have a : i.natAbs < 2 ^ n := h
  have b : j.natAbs < 2 ^ n := h'
  show (i + j).natAbs < 2 ^ (n + 1)
  rw [Nat.pow_succ]
  omega

/-- zipped lists of ints -/
theorem dot_take {a b : List Int} {i : Nat} {x y : Int} (ha : a[i]? = some x) (hb : b[i]? = some y) : dot (a.take (i + 1)) (b.take (i + 1)) = dot (a.take i) (b.take i) + x * y := by
  induction a generalizing b i with
  | nil => simp at ha
  | cons p r ih =>
    cases b with
    | nil => simp at hb
    | cons q t =>
      cases i with
      | zero =>
        simp at ha hb
        subst ha hb
        simp [dot]
      | succ i =>
        have e := ih (b := t) (i := i) (by simpa using ha) (by simpa using hb)
        simp only [List.take_succ_cons, dot]
        rw [e]
        omega

/-! ### comprehensions that fill a list -/
/-- tuples (and what is locked) stand as they stood -/
def TS (H H' : Hp) : Prop := ∀ a, (∀ xs, H a = some (.tup xs) → H' a = some (.tup xs)) ∧ ∀ o u, H a = some (.frz o u) → H' a = some (.frz o u)
theorem TS.refl (H : Hp) : TS H H := fun _ => ⟨fun _ h => h, fun _ _ h => h⟩
theorem TS.trans {H H1 H2 : Hp} (a : TS H H1) (b : TS H1 H2) : TS H H2 := fun c => ⟨fun xs h => (b c).1 xs ((a c).1 xs h), fun o u h => (b c).2 o u ((a c).2 o u h)⟩
theorem tsOf {H H' : Hp} (e : Same H H') : TS H H' := fun a => ⟨fun _ h => e a _ h, fun _ _ h => e a _ h⟩
theorem tsLst {H : Hp} {D : Addr} {xs ys : List V} (h : H D = some (.lst xs)) : TS H (upd H D (.lst ys)) := fun a => by
  by_cases e : a = D
  · subst e
    exact ⟨fun _ q => (by rw [h] at q; cases q), fun _ _ q => (by rw [h] at q; cases q)⟩
  · exact ⟨fun _ q => by rw [upd_ne e]; exact q, fun _ _ q => by rw [upd_ne e]; exact q⟩
theorem tsTup {K : PySem.W.Frag} {H H' : Hp} {a : Addr} {xs : List V} (e : TS H H') (h : SqT K H a xs) : SqT K H' a xs := by
  rcases h with (h | ⟨o, h⟩) | h
  · exact .inl (.inl ((e a).1 _ h))
  · exact .inl (.inr ⟨o, (e a).2 _ _ h⟩)
  · exact .inr h
theorem tsSum {K : PySem.W.Frag} {H H' : Hp} {v : V} {s : Sm} (e : TS H H') (h : SumIn K H v s) : SumIn K H' v s := by
  obtain ⟨a, t, rfl, h1, h2⟩ := h
  exact ⟨a, t, rfl, tsTup e h1, tsTup e h2⟩
def Stable (R : Nat → V → Hp → Prop) : Prop := ∀ j y H H', TS H H' → R j y H → R j y H'
/-- i items made, each as R says, H0 kept -/
def Made (H0 : Hp) (D : Addr) (R : Nat → V → Hp → Prop) (i : Nat) (H : Hp) : Prop :=
  ∃ ys : List V, ys.length = i ∧ H D = some (.lst ys) ∧ Same H0 H ∧ ∀ j y, ys[j]? = some y → R j y H
theorem made0 {H0 : Hp} {D : Addr} {R : Nat → V → Hp → Prop} (h : H0 D = none) : Made H0 D R 0 (upd H0 D (.lst [])) :=
  ⟨[], rfl, upd_same, sameNew h, fun j y e => by simp at e⟩
theorem Made.push {H0 H H4 : Hp} {D : Addr} {R : Nat → V → Hp → Prop} {i : Nat} {y : V} (m : Made H0 D R i H) (hD : H0 D = none) (st : Stable R) (hi : i < 100000) (e : Same H H4) (r : R i y H4) :
    ∃ acc, H4 D = some (.lst acc) ∧ acc.length < sizeLine ∧ Made H0 D R (i + 1) (upd H4 D (.lst (acc ++ [y]))) := by
  obtain ⟨ys, rfl, h1, h2, h3⟩ := m
  have h4 : H4 D = some (.lst ys) := e _ _ h1
  refine ⟨ys, h4, Nat.lt_of_lt_of_le hi (by decide), ys ++ [y], by simp, upd_same, sameMut (Same.trans h2 e) hD, fun j z hz => ?_⟩
  have t : TS H4 (upd H4 D (.lst (ys ++ [y]))) := tsLst h4
  by_cases hj : j < ys.length
  · rw [List.getElem?_append_left hj] at hz
    exact st _ _ _ _ (TS.trans (tsOf e) t) (h3 j z hz)
  · rw [List.getElem?_append_right (by omega)] at hz
    have hz' : j - ys.length = 0 := by
      cases q : j - ys.length with
      | zero => rfl
      | succ n => rw [q] at hz; simp at hz
    rw [hz'] at hz
    have ez : y = z := by simpa using hz
    have ej : j = ys.length := by omega
    subst ez ej
    exact st _ _ _ _ t r
theorem Made.same {H0 H : Hp} {D : Addr} {R : Nat → V → Hp → Prop} {i : Nat} (m : Made H0 D R i H) : Same H0 H := by
  obtain ⟨_, _, _, h, _⟩ := m
  exact h
/-- items that are ints told by a function -/
def RI (f : Nat → Int) : Nat → V → Hp → Prop := fun j y _ => y = .int (f j)
theorem stRI (f : Nat → Int) : Stable (RI f) := fun _ _ _ _ _ h => h
theorem madeRI {H0 H : Hp} {D : Addr} {f : Nat → Int} {n : Nat} (m : Made H0 D (RI f) n H) : H D = some (.lst (((List.range n).map f).map V.int)) ∧ Same H0 H := by
  obtain ⟨ys, e, h1, h2, h3⟩ := m
  refine ⟨?_, h2⟩
  rw [h1]
  congr 2
  apply List.ext_getElem?
  intro j
  by_cases hj : j < n
  · have hl : j < ys.length := by omega
    have q := h3 j ys[j] (List.getElem?_eq_getElem hl)
    rw [List.getElem?_eq_getElem hl, q]
    simp [hj]
  · rw [List.getElem?_eq_none (by omega), List.getElem?_eq_none (by simp; omega)]
/-- items that are ints with a property -/
def RP (p : Nat → Int → Prop) : Nat → V → Hp → Prop := fun j y _ => ∃ i, y = .int i ∧ p j i
theorem stRP (p : Nat → Int → Prop) : Stable (RP p) := fun _ _ _ _ _ h => h
theorem madeRP {H0 H : Hp} {D : Addr} {p : Nat → Int → Prop} {n : Nat} (m : Made H0 D (RP p) n H) : ∃ ns : List Int, ns.length = n ∧ H D = some (.lst (ns.map V.int)) ∧ Same H0 H ∧ ∀ (j : Nat) (i : Int), ns[j]? = some i → p j i := by
  obtain ⟨ys, e, h1, h2, h3⟩ := m
  have key : ∀ (l : List V) (k : Nat), (∀ j y, l[j]? = some y → ∃ i, y = .int i ∧ p (k + j) i) → ∃ ns : List Int, l = ns.map V.int ∧ ∀ (j : Nat) (i : Int), ns[j]? = some i → p (k + j) i := by
    intro l
    induction l with
    | nil => exact fun k _ => ⟨[], rfl, fun j i h => by simp at h⟩
    | cons y r ih =>
      intro k h
      obtain ⟨i, e1, p1⟩ := h 0 y rfl
      obtain ⟨ns, e2, p2⟩ := ih (k + 1) fun j z hz => by
        have q := h (j + 1) z (by simpa using hz)
        rw [show k + 1 + j = k + (j + 1) by omega]
        exact q
      refine ⟨i :: ns, by rw [e1, e2]; rfl, fun j z hz => ?_⟩
      cases j with
      | zero =>
        have : i = z := by simpa using hz
        subst this
        exact p1
      | succ j =>
        have q := p2 j z (by simpa using hz)
        rw [show k + (j + 1) = k + 1 + j by omega]
        exact q
  obtain ⟨ns, rfl, hp⟩ := key ys 0 fun j y hy => by
    obtain ⟨i, q1, q2⟩ := h3 j y hy
    exact ⟨i, q1, by rw [Nat.zero_add]; exact q2⟩
  refine ⟨ns, by simpa using e, h1, h2, fun j i h => ?_⟩
  have q := hp j i h
  rwa [Nat.zero_add] at q

theorem dot_sum (a b : List Int) (h : a.length = b.length) : dot a b = ((List.range a.length).map fun i => (a[i]?.getD 0) * (b[i]?.getD 0)).sum := by
  induction a generalizing b with
  | nil => rfl
  | cons x r ih =>
    cases b with
    | nil => simp at h
    | cons y t =>
      have e := ih t (by simpa using h)
      rw [List.length_cons, List.range_succ_eq_map, List.map_cons, List.sum_cons, List.map_map]
      simp only [dot, e]
      congr 1

/-! ### targets within a comprehension: without defaults, so that what is wanted is known first -/
theorem pgN {X : Cx} {i : Nat} {x : Str} {pos : Pos} (hN : X.N.Nodup) (hi : X.N[i]? = some x) (hx : Loc X.env.scope x) (hf : X.fn x = true ∨ X.env.scope.names.lookup x = some .local) : PG X (.Name x pos) (gName i) := pg_name hN hi hx hf
theorem pgT2 {X : Cx} {K : PySem.W.Frag} {e1 e2 : Expr} {k : Nat} {pos : Pos} {t u : TG} (hK : X.K = K) (h1 : PG X e1 t) (h2 : PG X e2 u) (hc : X.calm = true)
    (a : (assignEach [e1, e2] X.env).map (·.2) = assign e1 X.env :: (assignEach [e2] X.env).map (·.2)) (b : (assignEach [e2] X.env).map (·.2) = assign e2 X.env :: (assignEach [] X.env).map (·.2))
    (hn : (assignEach [e1, e2] X.env).length = 2) (hst : (assignEach [e1, e2] X.env).findIdx? (·.1) = none) : PG X (.Tuple [e1, e2] k pos) (gTup K 2 (gCons t (gCons u gNil))) := by
  subst hK
  exact pg_tup hc (pgs_cons h1 (pgs_cons h2 pgs_nil b) a) hn hst

/-! ### the rules with the written part named -/
section
variable {X : Cx} {K : PySem.W.Frag}
def rLenK (K : PySem.W.Frag) : List V → Hp → VK → Prop := fun xs H Q => ∃ p ys, xs = [.ref p] ∧ (SqL K H p ys ∨ SqT K H p ys) ∧ Q (.int (ys.length : Nat)) H
def rListK (K : PySem.W.Frag) : List V → Hp → VK → Prop := fun xs H Q => ∃ p ys, xs = [.ref p] ∧ (SqL K H p ys ∨ SqT K H p ys) ∧ ∀ l, H l = none → Q (.ref l) (upd H l (.lst ys))
def rTupK (K : PySem.W.Frag) : List V → Hp → VK → Prop := fun xs H Q => ∃ p ys, xs = [.ref p] ∧ ((SqL K H p ys ∧ ∀ l, H l = none → Q (.ref l) (upd H l (.tup ys))) ∨ (SqT K H p ys ∧ Q (.ref p) H))
theorem kLen (h : X.K = K) : CallR X (.builtin "len") (rLenK K) := by subst h; exact call_len_seq
theorem kList (h : X.K = K) : CallR X (.type "list") (rListK K) := by subst h; exact call_list_of
theorem kTup (h : X.K = K) : CallR X (.type "tuple") (rTupK K) := by subst h; exact call_tuple_of
theorem kSum (h : X.K = K) (hc : X.calm = true) : CallR X (.builtin "sum") (rSum K) := by subst h; exact cr_sum hc
theorem kAll (h : X.K = K) (hc : X.calm = true) : CallR X (.builtin "all") (rAll K) := by subst h; exact cr_all hc
theorem kIsi (h : X.K = K) : CallR X (.builtin "isinstance") (rIsi K) := by subst h; exact call_isi
theorem kIxL (h : X.K = K) : IxR X (rIxL K) := by subst h; exact ix_list
theorem kIxT (h : X.K = K) : IxR X (rIxT K) := by subst h; exact ix_tup
theorem kSlL (h : X.K = K) : SlR X (rSlL K) := by subst h; exact sl_list
theorem kSlT (h : X.K = K) : SlR X (rSlA K) := by subst h; exact sl_tupA
theorem kCatT (h : X.K = K) : OpR X (binaryOp .Add) (rCatA K) := by subst h; exact op_catA
theorem kRepT (h : X.K = K) : OpR X (binaryOp .Mult) (rRepT K) := by subst h; exact op_repT
theorem kIn (h : X.K = K) : OpR X (compareOp .In) (rIn K false) := by subst h; exact op_in_seq
theorem kNotIn (h : X.K = K) : OpR X (compareOp .NotIn) (rIn K true) := by subst h; exact op_notIn_seq
theorem kEqD (h : X.K = K) (hu : X.A.units + 64 < cLine) : OpR X (compareOp .Eq) (rEqD K) := by subst h; exact op_eqD hu
theorem kNeD (h : X.K = K) (hu : X.A.units + 64 < cLine) : OpR X (compareOp .NotEq) (rNeD K) := by subst h; exact op_neD hu
theorem kList_ {tg l : Expr} {tl : TE} (h : X.K = K) (hl : PE X l tl) : PI X tg l (iList K tl) := by subst h; exact pi_list hl
theorem kTup_ {tg l : Expr} {tl : TE} (h : X.K = K) (hl : PE X l tl) : PI X tg l (iTup K tl) := by subst h; exact pi_tup hl
theorem kZ {e e2 : Expr} {ta : TA} {p pos tpos : Pos} {elts : List Expr} {kk : Nat} (h : X.K = K) (b1 b2 : Bool) (hg : Gl X "zip") (hm : X.mg "zip" = none) (ha : PA X [e, e2] ta)
    (hs : starEach [e, e2] X.env = (false, eval e X.env) :: starEach [e2] X.env := by rfl) (hpl : (backTo pos (starEach [e2] X.env)).any (·.1) = false := by rfl) :
    PI X (.Tuple elts kk tpos) (.Call (.Name "zip" p) [e, e2] [] pos) (iZ K ta b1 b2) := by subst h; exact piZ b1 b2 hg hm ha hs hpl
theorem kE {e : Expr} {ta : TA} {p pos tpos : Pos} {elts : List Expr} {kk : Nat} (h : X.K = K) (b : Bool) (hg : Gl X "enumerate") (hm : X.mg "enumerate" = none) (ha : PA X [e] ta) (hs : starEach [e] X.env = [(false, eval e X.env)] := by rfl) :
    PI X (.Tuple elts kk tpos) (.Call (.Name "enumerate" p) [e] [] pos) (iE K ta b) := by subst h; exact piE b hg hm ha hs
theorem kT2 {e1 e2 : Expr} {k : Nat} {pos : Pos} {t u : TG} (h : X.K = K) (hc : X.calm = true) (h1 : PG X e1 t) (h2 : PG X e2 u)
    (a : (assignEach [e1, e2] X.env).map (·.2) = assign e1 X.env :: (assignEach [e2] X.env).map (·.2) := by rfl) (b : (assignEach [e2] X.env).map (·.2) = assign e2 X.env :: (assignEach [] X.env).map (·.2) := by rfl)
    (hn : (assignEach [e1, e2] X.env).length = 2 := by rfl) (hst : (assignEach [e1, e2] X.env).findIdx? (·.1) = none := by rfl) : PG X (.Tuple [e1, e2] k pos) (gTup K 2 (gCons t (gCons u gNil))) := by
  subst h
  exact pg_tup hc (pgs_cons h1 (pgs_cons h2 pgs_nil b) a) hn hst
theorem kApp (h : X.K = K) {o : Expr} {es : List Expr} {e : Expr} {to : TE} {t : TA} {apos cpos : Pos} (ho : PE X o to) (ha : PA X [e] t) (hh : PE X (.Call (.Attribute o "append" apos) [e] [] cpos) (tBM X.K "list" rAppend to t)) : PE X (.Call (.Attribute o "append" apos) [e] [] cpos) (tBM K "list" rAppend to t) := by subst h; exact hh
end

theorem mapAt {ns : List Int} {i : Nat} {x : V} (e : (ns.map V.int)[i]? = some x) (h : i < ns.length) : x = .int ns[i] := by
  rw [List.getElem?_map, List.getElem?_eq_getElem h] at e
  exact (Option.some.inj e).symm
theorem intAt {ns : List Int} {i : Nat} (h : i < ns.length) : (ns.map V.int)[i]? = some (.int ns[i]) := by
  rw [List.getElem?_map, List.getElem?_eq_getElem h]
  rfl

theorem lcYes {σ : L2.St} {H : Hp} {A B : Hp → Prop} (h : A H) : tYes σ H (fun b H3 => if b = true then A H3 else B H3) := by
  show (if true = true then A H else B H)
  exact iteT h

theorem tyTup {K : PySem.W.Frag} {H : Hp} {a : Addr} {xs : List V} (h : SqT K H a xs) : TyX K H (.ref a) (.type "tuple") := by
  rcases h with (h | ⟨o, h⟩) | ⟨o, its, n, h, hc, _⟩
  · exact .base (.tup h)
  · exact .fTuple h
  · exact .kTuple h hc
theorem tyLst {K : PySem.W.Frag} {H : Hp} {a : Addr} {xs : List V} (h : SqL K H a xs) : TyX K H (.ref a) (.type "list") := by
  rcases h with (h | ⟨o, h⟩) | ⟨o, its, n, h, hc, _⟩
  · exact .base (.lst h)
  · exact .base (.frz h)
  · exact .kList h hc

/-- the list of values vs: the sums ss -/
def SumsIn (K : PySem.W.Frag) (H : Hp) (vs : List V) (ss : List Sm) : Prop := Paired (SumIn K H) vs ss
theorem SumsIn.len {K : PySem.W.Frag} {H : Hp} {vs : List V} {ss : List Sm} (h : SumsIn K H vs ss) : vs.length = ss.length := Paired.length h
theorem sumsAt {K : PySem.W.Frag} {H : Hp} : ∀ {vs : List V} {ss : List Sm} {i : Nat} {v : V} (_ : SumsIn K H vs ss) (_ : vs[i]? = some v), ∃ s, ss[i]? = some s ∧ SumIn K H v s
  | _, _, _, _, .nil, e => by simp at e
  | _, _, 0, _, .cons r _, e => by
    simp at e
    subst e
    exact ⟨_, rfl, r⟩
  | _, _, i + 1, v, .cons _ t, e => by
    obtain ⟨s, h1, h2⟩ := sumsAt (i := i) t (by simpa using e)
    exact ⟨s, by simpa using h1, h2⟩
theorem tsSums {K : PySem.W.Frag} {H H' : Hp} (e : TS H H') {vs : List V} {ss : List Sm} (h : SumsIn K H vs ss) : SumsIn K H' vs ss := Paired.mapP h fun _ _ r => tsSum e r

/-! ### bounds -/
theorem dotWd {n m : Nat} : ∀ {a b : List Int}, (∀ x ∈ a, Wd n x) → (∀ y ∈ b, Wd m y) → Wd (n + m + a.length) (dot a b)
  | [], _, _, _ => by
    show (0 : Int).natAbs < _
    exact Nat.two_pow_pos _
  | _ :: _, [], _, _ => by
    show (0 : Int).natAbs < _
    exact Nat.two_pow_pos _
  | x :: r, y :: t, h, h' => by
    have ih := dotWd (a := r) (b := t) (fun z hz => h z (List.mem_cons_of_mem _ hz)) (fun z hz => h' z (List.mem_cons_of_mem _ hz))
    exact Wd.add (n := n + m + r.length) (Wd.mono (Wd.mul (h x (List.mem_cons_self ..)) (h' y (List.mem_cons_self ..))) (by omega)) ih
theorem sumWd {n : Nat} : ∀ {a : List Int}, (∀ x ∈ a, Wd n x) → Wd (n + a.length) a.sum
  | [], _ => by
    show (0 : Int).natAbs < _
    exact Nat.two_pow_pos _
  | x :: r, h => by
    have ih := sumWd (a := r) fun z hz => h z (List.mem_cons_of_mem _ hz)
    rw [List.sum_cons]
    exact Wd.add (n := n + r.length) (Wd.mono (h x (List.mem_cons_self ..)) (by omega)) ih
theorem valWd {n m : Nat} {s : Sm} {xs : List Int} (h : ∀ x ∈ s.1, Wd n x) (h2 : Wd n s.2) (h' : ∀ y ∈ xs, Wd m y) : Wd (n + m + s.1.length + 1) (val s xs) :=
  Wd.add (Wd.mono h2 (by omega)) (dotWd h h')

/-! ### data -/
def dI (ns : List Int) : List PyData := ns.map PyData.int
def dS (s : Sm) : PyData := .tuple [.tuple (dI s.1), .int s.2]
theorem dpInts {K : PySem.W.Frag} {H : Hp} : ∀ ns : List Int, DpAll K H (ns.map V.int) (dI ns)
  | [] => .nil
  | n :: r => .cons (.int n) (dpInts r)
theorem dpSum {K : PySem.W.Frag} {H : Hp} {v : V} {s : Sm} (h : SumIn K H v s) : Dp K H v (dS s) := by
  obtain ⟨a, t, rfl, h1, h2⟩ := h
  exact .tup h1 (.cons (.tup h2 (dpInts _)) (.cons (.int _) .nil))
theorem dpSums {K : PySem.W.Frag} {H : Hp} : ∀ {vs : List V} {ss : List Sm}, SumsIn K H vs ss → DpAll K H vs (ss.map dS)
  | _, _, .nil => .nil
  | _, _, .cons r t => .cons (dpSum r) (dpSums t)

/-- data that can be laid, at most n deep -/
def Ly (n : Nat) (d : PyData) : Prop := d.canLay0 = true ∧ d.depth ≤ n
def LyA (n : Nat) (ds : List PyData) : Prop := PyData.canLayAll0 ds = true ∧ PyData.depthAll ds ≤ n
theorem Ly.shaped {n : Nat} {d : PyData} (h : Ly n d) (l : n ≤ 64) : SeqAt.shaped d = true := by
  unfold SeqAt.shaped
  rw [h.1, decide_eq_true (Nat.le_trans h.2 l)]
  rfl
theorem Ly.same {n : Nat} {d : PyData} (h : Ly n d) : PyData.eqv d d = true := SeqAt.eqv_refl d h.1
theorem lyInt (i : Int) : Ly 1 (.int i) := ⟨by simp [PyData.canLay0], by simp [PyData.depth]⟩
theorem lyNil (n : Nat) : LyA n [] := ⟨by simp [PyData.canLayAll0], by simp [PyData.depthAll]⟩
theorem lyCons {n : Nat} {d : PyData} {ds : List PyData} (h : Ly n d) (h' : LyA n ds) : LyA n (d :: ds) := by
  refine ⟨?_, ?_⟩
  · simp [PyData.canLayAll0, h.1, h'.1]
  · have a := h.2
    have b := h'.2
    simp [PyData.depthAll]
    omega
theorem lyTup {n : Nat} {ds : List PyData} (h : LyA n ds) : Ly (n + 1) (.tuple ds) := by
  refine ⟨by simp [PyData.canLay0, h.1], ?_⟩
  have b := h.2
  simp [PyData.depth]
  omega
theorem lyLst {n : Nat} {ds : List PyData} (h : LyA n ds) : Ly (n + 1) (.list ds) := by
  refine ⟨by simp [PyData.canLay0, h.1], ?_⟩
  have b := h.2
  simp [PyData.depth]
  omega
theorem Ly.up {n m : Nat} {d : PyData} (h : Ly n d) (l : n ≤ m) : Ly m d := ⟨h.1, Nat.le_trans h.2 l⟩
theorem lyInts : ∀ ns : List Int, LyA 1 (dI ns)
  | [] => lyNil 1
  | n :: r => lyCons (lyInt n) (lyInts r)
theorem lySum (s : Sm) : Ly 3 (dS s) := lyTup (lyCons (lyTup (lyInts _)) (lyCons ((lyInt _).up (by decide)) (lyNil _)))
theorem lySums : ∀ ss : List Sm, LyA 3 (ss.map dS)
  | [] => lyNil 3
  | s :: r => lyCons (lySum s) (lySums r)

theorem pairedApp {α β : Type} {R : α → β → Prop} : ∀ {a c : List α} {b d : List β}, Paired R a b → Paired R c d → Paired R (a ++ c) (b ++ d)
  | _, _, _, _, .nil, h => h
  | _, _, _, _, .cons r t, h => .cons r (pairedApp t h)
end LW

namespace LW
open PySem PySem.Spec PyProof.Rows L2
/-! ### types compared -/
theorem slotTyNe : Slot "type" (cmpInfo .NotEq).2.1 "object.__ne__" :=
  .of (owner := "object") (n := "__ne__") (by rw [typeLookup_type, builtinLookup_eq_fast] <;> kernel_rfl) (by decide +kernel) (by decide +kernel) (by decide +kernel)
    (by first | exact .inr (by decide +kernel) | exact .inl (by decide +kernel)) (by rw [isSubtype_type] <;> kernel_rfl)
theorem slotTyNe2 : Slot "type" (cmpInfo .NotEq).2.2 "object.__ne__" := slotTyNe
section
variable {prog : Program} {w : World} {A : Around} {E : Value → Shared → Prop} {s : Shared}
theorem neSame {X : String} (hX : ∀ s' : Shared, s'.TypeIs (.type X) "type") {Q : Fin → Shared → Prop} (q : Q (.done (.ret (.bool false))) s) :
    wpAny (model prog w) A (Builtin.«object.__ne__» ⟨[.type X, .type X], []⟩) Q E s := by
  obtain ⟨hp, g, d, tk, os⟩ := s
  unfold Builtin.«object.__ne__»
  have step : ∀ {A' : Around} {R : Option Value → Shared → Prop}, R (some (.bool true)) ⟨hp, g, d, tk, os⟩ → wpAny (model prog w) A' (callSpecialIfBound? (.type X) "__eq__" [.type X]) R E ⟨hp, g, d, tk, os⟩ := fun {A' R} r =>
    wpAny_callSpecialIfBound?_slot (hX _) TypeEq.slot_type_eq (call_gives TypeEq.slot_type_eq (hX _) F.entry_object_eq (F.args_object_eq_2 _ _) (TypeEq.object_eq_same rfl (by simp)) r)
  repeat (first | with_reducible refine wpAny_cRoomFor_or (.inl rfl) ?_ | with_reducible refine step ?_ | wp_step)
  exact q
theorem neOther {X Y : String} (hX : ∀ s' : Shared, s'.TypeIs (.type X) "type") (hne : (Value.type X == Value.type Y) = false) {Q : Fin → Shared → Prop} (q : Q (.done (.ret .notImplemented)) s) :
    wpAny (model prog w) A (Builtin.«object.__ne__» ⟨[.type X, .type Y], []⟩) Q E s := by
  obtain ⟨hp, g, d, tk, os⟩ := s
  unfold Builtin.«object.__ne__»
  have step : ∀ {A' : Around} {R : Option Value → Shared → Prop}, R (some .notImplemented) ⟨hp, g, d, tk, os⟩ → wpAny (model prog w) A' (callSpecialIfBound? (.type X) "__eq__" [.type Y]) R E ⟨hp, g, d, tk, os⟩ := fun {A' R} r =>
    wpAny_callSpecialIfBound?_slot (hX _) TypeEq.slot_type_eq (call_gives TypeEq.slot_type_eq (hX _) F.entry_object_eq (F.args_object_eq_2 _ _) (TypeEq.object_eq_other rfl hne) r)
  repeat (first | with_reducible refine wpAny_cRoomFor_or (.inl rfl) ?_ | with_reducible refine step ?_ | wp_step)
  exact q
theorem neTySame {X : String} (hX : ∀ s' : Shared, s'.TypeIs (.type X) "type") {Q : Value → Shared → Prop} (q : Q (.bool false) s) : wpAny (model prog w) A (compareOp .NotEq (.type X) (.type X)) Q E s := by
  show wpAny _ A (richCompare .NotEq _ _) Q E s
  exact wpAny_richCompare_same (T := "type") (hX s) (hX s) slotTyNe (wpAny_call_entry slotTyNe (hX s) F.cmpEntry_ne (neSame hX ⟨_, rfl, (by intro e; cases e), q⟩) (F.cmpArgs_ne _ _))
theorem neTyOther {X Y : String} (hX : ∀ s' : Shared, s'.TypeIs (.type X) "type") (hY : ∀ s' : Shared, s'.TypeIs (.type Y) "type") (hne : (Value.type X == Value.type Y) = false) {Q : Value → Shared → Prop} (q : Q (.bool true) s) :
    wpAny (model prog w) A (compareOp .NotEq (.type X) (.type Y)) Q E s := by
  have hne' : (Value.type Y == Value.type X) = false := by
    rw [Bool.eq_false_iff] at hne ⊢
    exact fun e => hne (by rw [beq_iff_eq] at e ⊢; exact e.symm)
  have c1 : wpAny (model prog w) A (call (.builtin "object.__ne__") [.type X, .type Y]) (fun v s1 => v = .notImplemented ∧ s1 = s) E s :=
    wpAny_call_entry slotTyNe (hX s) F.cmpEntry_ne (neOther hX hne ⟨_, rfl, rfl, rfl⟩) (F.cmpArgs_ne _ _)
  have c2 : wpAny (model prog w) A (call (.builtin "object.__ne__") [.type Y, .type X]) (fun v s1 => v = .notImplemented ∧ s1 = s) E s :=
    wpAny_call_entry slotTyNe (hY s) F.cmpEntry_ne (neOther hY hne' ⟨_, rfl, rfl, rfl⟩) (F.cmpArgs_ne _ _)
  have t1 : ∀ {R : Option Value → Shared → Prop}, R none s → wpAny (model prog w) A (tryCompare (.type X) "__ne__" (.type Y)) R E s := fun {R} r =>
    wpAny_tryCompare_declines (hX s) slotTyNe (wpAny_mono c1 (fun v s1 h => ⟨h.1, by rw [h.2]; exact r⟩) fun _ _ z => z)
  have t2 : ∀ {R : Option Value → Shared → Prop}, R none s → wpAny (model prog w) A (tryCompare (.type Y) "__ne__" (.type X)) R E s := fun {R} r =>
    wpAny_tryCompare_declines (hY s) slotTyNe (wpAny_mono c2 (fun v s1 h => ⟨h.1, by rw [h.2]; exact r⟩) fun _ _ z => z)
  show wpAny _ A (richCompare .NotEq _ _) Q E s
  have hi : cmpInfo CmpOp.NotEq = (("!=", "__ne__", "__ne__") : String × Str × Str) := rfl
  simp only [richCompare, hi, (hX s).oneThing_none]
  try with_reducible refine wpAny_holding ?_
  refine wpAny_bind (wpAny_cRoomFor_or (.inl rfl) ?_)
  refine wpAny_bind (wpAny_typeOf (hX s) (wpAny_bind (wpAny_typeOf (hY s) ?_)))
  simp only [bne_self_eq_false, Bool.false_eq_true, if_false, pure_bind, Bool.not_false, if_true]
  refine wpAny_bind (t1 ?_)
  refine wpAny_bind (t2 ?_)
  refine wpAny_bind (wpAny_rule (wpAny_bind (wpAny_of_eq (isSame_plain rfl) (wpAny_pure ?_))))
  rw [hne]
  exact q
end

/-! ### type(x), and types as values -/
/-- the built-in types that the texts ask for -/
def tyOk (n : String) : Prop := ∀ s' : Shared, s'.TypeIs (.type n) "type"
inductive Known : String → Prop
  | int : Known "int" | str : Known "str" | bool : Known "bool" | non : Known "NoneType" | lst : Known "list" | tup : Known "tuple" | dct : Known "dict"
theorem Known.ok {n : String} (h : Known n) : tyOk n := by
  cases h
  · exact TypeEq.meta_int
  · exact TypeEq.meta_str
  · exact TypeEq.meta_bool
  · exact TypeEq.meta_NoneType
  · exact TypeEq.meta_list
  · exact TypeEq.meta_tuple
  · exact TypeEq.meta_dict
/-- the type of a value by its name -/
inductive TyN (K : PySem.W.Frag) (H : Hp) : V → String → Prop
  | non : TyN K H .non "NoneType"
  | bl (b : Bool) : TyN K H (.bl b) "bool"
  | int (i : Int) : TyN K H (.int i) "int"
  | str (x : Str) : TyN K H (.str x) "str"
  | lst {a : Addr} {xs : List V} (h : SqL K H a xs) : TyN K H (.ref a) "list"
  | tup {a : Addr} {xs : List V} (h : SqT K H a xs) : TyN K H (.ref a) "tuple"
  | dct {a : Addr} {kvs : List (Key × V)} (h : H a = some (.dK kvs)) : TyN K H (.ref a) "dict"
theorem TyN.known {K : PySem.W.Frag} {H : Hp} {x : V} {n : String} (h : TyN K H x n) : Known n := by cases h <;> constructor
def rTyN (K : PySem.W.Frag) : List V → Hp → VK → Prop := fun xs H Q => ∃ (x : V) (n : String), xs = [x] ∧ TyN K H x n ∧ Q (.ty n) H
theorem kType {X : Cx} {K : PySem.W.Frag} (h : X.K = K) : CallR X (.type "type") (rTyN K) := by
  subst h
  intro pins s σ H xs us Q I r h
  obtain ⟨x, n, rfl, t, q⟩ := h
  match us, r with
  | [u], .cons rx .nil =>
    have fin : ∀ (hx : s.TypeIs u n) (hb : (Value.type n == Value.type "builtin_function_or_method") = false), wpAny (model X.prog X.w) X.A (call (.type "type") [u]) (EP X pins σ Q) X.xe s := fun hx hb =>
      call_type_of hx hb ⟨.ty n, H, I, rfl, q⟩
    cases t with
    | non => cases rx; exact fin rfl (by decide +kernel)
    | bl b => cases rx; exact fin rfl (by decide +kernel)
    | int i => obtain ⟨k, rfl⟩ := rx; exact fin (typeIs_int s i k) (by decide +kernel)
    | str z => obtain ⟨k, rfl⟩ := rx; exact fin (typeIs_str s z k) (by decide +kernel)
    | lst e => cases rx; obtain ⟨_, _, p, _⟩ := I.list e; exact fin p.isList.typeIs (by decide +kernel)
    | tup e => cases rx; obtain ⟨_, _, p, _⟩ := I.tuple e; exact fin p.typeIs (by decide +kernel)
    | dct e => cases rx; obtain ⟨_, _, _, _, o, _, _, e1, e2, _⟩ := I.hok _ _ e; exact fin ⟨o, e1, e2.1⟩ (by decide +kernel)
def rEqTy : R2 := fun x y H Q => ∃ a b, x = .ty a ∧ y = .ty b ∧ Known a ∧ Known b ∧ Q (.bl (decide (a = b))) H
def rNeTy : R2 := fun x y H Q => ∃ a b, x = .ty a ∧ y = .ty b ∧ Known a ∧ Known b ∧ Q (.bl (!decide (a = b))) H
theorem tyDiff {a b : String} (h : ¬ a = b) : (Value.type a == Value.type b) = false := by
  rw [Bool.eq_false_iff]
  intro e
  rw [beq_iff_eq] at e
  cases e
  exact h rfl
theorem kEqTy {X : Cx} : OpR X (compareOp .Eq) rEqTy := by
  intro pins s σ H x y v u Q I rx ry h
  obtain ⟨a, b, rfl, rfl, ka, kb, q⟩ := h
  cases rx
  cases ry
  by_cases e : a = b
  · subst e
    exact TypeEq.eq_type_same ka.ok ⟨.bl true, H, I, rfl, by rw [decide_eq_true rfl] at q; exact q⟩
  · exact TypeEq.eq_type_other ka.ok kb.ok (tyDiff e) ⟨.bl false, H, I, rfl, by rw [decide_eq_false e] at q; exact q⟩
theorem kNeTy {X : Cx} : OpR X (compareOp .NotEq) rNeTy := by
  intro pins s σ H x y v u Q I rx ry h
  obtain ⟨a, b, rfl, rfl, ka, kb, q⟩ := h
  cases rx
  cases ry
  by_cases e : a = b
  · subst e
    exact neTySame ka.ok ⟨.bl false, H, I, rfl, by rw [decide_eq_true rfl] at q; exact q⟩
  · exact neTyOther ka.ok kb.ok (tyDiff e) ⟨.bl true, H, I, rfl, by rw [decide_eq_false e] at q; exact q⟩
end LW

namespace LW
open PySem PySem.Spec PyProof.Rows L2
/-! ### data that a program may be made of -/
inductive D where
  | non | bl (b : Bool) | int (i : Int) | str (s : Str) | lst | dct | tup (ds : List D)
mutual
inductive Din (K : PySem.W.Frag) (H : Hp) : V → D → Prop
  | non : Din K H .non .non
  | bl (b : Bool) : Din K H (.bl b) (.bl b)
  | int (i : Int) : Din K H (.int i) (.int i)
  | str (s : Str) : Din K H (.str s) (.str s)
  | lst {a : Addr} {xs : List V} (h : SqL K H a xs) : Din K H (.ref a) .lst
  | dct {a : Addr} {kvs : List (Key × V)} (h : H a = some (.dK kvs)) : Din K H (.ref a) .dct
  | tup {a : Addr} {xs : List V} {ds : List D} (h : SqT K H a xs) (t : DinA K H xs ds) : Din K H (.ref a) (.tup ds)
inductive DinA (K : PySem.W.Frag) (H : Hp) : List V → List D → Prop
  | nil : DinA K H [] []
  | cons {v : V} {vs : List V} {d : D} {ds : List D} (h : Din K H v d) (t : DinA K H vs ds) : DinA K H (v :: vs) (d :: ds)
end
mutual
/-- without lists and dicts -/
def D.pure : D → Bool
  | .lst => false
  | .dct => false
  | .tup ds => D.pures ds
  | _ => true
def D.pures : List D → Bool
  | [] => true
  | d :: r => D.pure d && D.pures r
end
section
variable {K : PySem.W.Frag} {H H' : Hp}
mutual
theorem dinSame (e : Same H H') : ∀ {d : D} {v : V}, Din K H v d → Din K H' v d
  | .non, _, .non => .non
  | .bl _, _, .bl b => .bl b
  | .int _, _, .int i => .int i
  | .str _, _, .str s => .str s
  | .lst, _, .lst h => .lst (Same.seq e h)
  | .dct, _, .dct h => .dct (e _ _ h)
  | .tup ds, _, .tup h t => .tup (tupS e h) (dinASame e t)
theorem dinASame (e : Same H H') : ∀ {ds : List D} {vs : List V}, DinA K H vs ds → DinA K H' vs ds
  | [], _, .nil => .nil
  | _ :: _, _, .cons h t => .cons (dinSame e h) (dinASame e t)
end
mutual
theorem dinTS (e : TS H H') : ∀ {d : D} {v : V}, d.pure = true → Din K H v d → Din K H' v d
  | .non, _, _, .non => .non
  | .bl _, _, _, .bl b => .bl b
  | .int _, _, _, .int i => .int i
  | .str _, _, _, .str s => .str s
  | .lst, _, p, _ => by simp [D.pure] at p
  | .dct, _, p, _ => by simp [D.pure] at p
  | .tup ds, _, p, .tup h t => .tup (tsTup e h) (dinATS e (by simpa [D.pure] using p) t)
theorem dinATS (e : TS H H') : ∀ {ds : List D} {vs : List V}, D.pures ds = true → DinA K H vs ds → DinA K H' vs ds
  | [], _, _, .nil => .nil
  | _ :: _, _, p, .cons h t => by
    simp only [D.pures, Bool.and_eq_true] at p
    exact .cons (dinTS e p.1 h) (dinATS e p.2 t)
end
theorem DinA.len : ∀ {vs : List V} {ds : List D}, DinA K H vs ds → vs.length = ds.length
  | _, _, .nil => rfl
  | _, _, .cons _ t => by rw [List.length_cons, List.length_cons, DinA.len t]
theorem dinAt : ∀ {vs : List V} {ds : List D} {i : Nat} {v : V}, DinA K H vs ds → vs[i]? = some v → ∃ d, ds[i]? = some d ∧ Din K H v d
  | _, _, _, _, .nil, e => by simp at e
  | _, _, 0, _, .cons h _, e => by
    simp at e
    subst e
    exact ⟨_, rfl, h⟩
  | _, _, i + 1, v, .cons _ t, e => by
    obtain ⟨d, h1, h2⟩ := dinAt (i := i) t (by simpa using e)
    exact ⟨d, by simpa using h1, h2⟩
theorem dinAtD : ∀ {vs : List V} {ds : List D} {i : Nat} {d : D}, DinA K H vs ds → ds[i]? = some d → ∃ v, vs[i]? = some v ∧ Din K H v d
  | _, _, _, _, .nil, e => by simp at e
  | _, _, 0, _, .cons h _, e => by
    simp at e
    subst e
    exact ⟨_, rfl, h⟩
  | _, _, i + 1, v, .cons _ t, e => by
    obtain ⟨d, h1, h2⟩ := dinAtD (i := i) t (by simpa using e)
    exact ⟨d, by simpa using h1, h2⟩
theorem dinApp : ∀ {a c : List V} {b d : List D}, DinA K H a b → DinA K H c d → DinA K H (a ++ c) (b ++ d)
  | _, _, _, _, .nil, h => h
  | _, _, _, _, .cons r t, h => .cons r (dinApp t h)
theorem dinDrop : ∀ {vs : List V} {ds : List D} (n : Nat), DinA K H vs ds → DinA K H (vs.drop n) (ds.drop n)
  | _, _, 0, h => by simpa using h
  | _, _, _ + 1, .nil => by simpa using DinA.nil
  | _, _, n + 1, .cons _ t => by simpa using dinDrop n t
theorem dinTake : ∀ {vs : List V} {ds : List D} (n : Nat), DinA K H vs ds → DinA K H (vs.take n) (ds.take n)
  | _, _, 0, h => by simpa using DinA.nil
  | _, _, _ + 1, .nil => by simpa using DinA.nil
  | _, _, n + 1, .cons h t => by simpa using DinA.cons h (dinTake n t)
theorem dinInts : ∀ ns : List Int, DinA K H (ns.map V.int) (ns.map D.int)
  | [] => .nil
  | n :: r => .cons (.int n) (dinInts r)
theorem pureInts : ∀ ns : List Int, D.pures (ns.map D.int) = true
  | [] => rfl
  | n :: r => by
    simp only [List.map_cons, D.pures, D.pure, Bool.true_and]
    exact pureInts r
/-- a sum as data -/
def dSm (s : Sm) : D := .tup [.tup (s.1.map D.int), .int s.2]
theorem dinSum {v : V} {s : Sm} (h : SumIn K H v s) : Din K H v (dSm s) := by
  obtain ⟨a, t, rfl, h1, h2⟩ := h
  exact .tup h1 (.cons (.tup h2 (dinInts _)) (.cons (.int _) .nil))
theorem sumDin {v : V} {s : Sm} (h : Din K H v (dSm s)) : SumIn K H v s := by
  cases h with
  | tup h1 t =>
    cases t with
    | cons a b =>
      cases a with
      | tup h2 t2 =>
        cases b with
        | cons c d =>
          cases c
          cases d
          have key : ∀ (ns : List Int) (xs : List V), DinA K H xs (ns.map D.int) → xs = ns.map V.int := by
            intro ns
            induction ns with
            | nil =>
              intro xs h
              cases h
              rfl
            | cons n r ih =>
              intro xs h
              cases h with
              | cons p q =>
                cases p
                rw [ih _ q]
                rfl
          rw [key _ _ t2] at h2
          exact ⟨_, _, rfl, h1, h2⟩
theorem pureSum (s : Sm) : (dSm s).pure = true := by
  simp [dSm, D.pure, D.pures, pureInts]
/-- its type's name -/
def D.ty : D → String
  | .non => "NoneType" | .bl _ => "bool" | .int _ => "int" | .str _ => "str" | .lst => "list" | .dct => "dict" | .tup _ => "tuple"
theorem dinTy {v : V} {d : D} (h : Din K H v d) : TyN K H v d.ty := by
  cases h with
  | non => exact .non
  | bl b => exact .bl b
  | int i => exact .int i
  | str s => exact .str s
  | lst h => exact .lst h
  | dct h => exact .dct h
  | tup h _ => exact .tup h
end

/-! ### what is a program -/
def fromTo (d : D) (lo hi : Int) : Bool := match d with
  | .int i => decide (lo ≤ i) && decide (i ≤ hi)
  | _ => false
def sumOk (many : Nat) (d : D) : Bool := match d with
  | .tup [.tup ns, l] => decide (ns.length = many) && ns.all (fun n => fromTo n (-9) 9) && fromTo l (-99) 99
  | _ => false
def wordsOk (many : Nat) (d : D) : Bool := match d with
  | .tup ws => decide (ws.length ≤ 3) && ws.all (sumOk many)
  | _ => false
def restOk (many : Nat) (k : Str) (rest : List D) : Bool :=
  if k = "put" then (match rest with | [b, s] => fromTo b 0 ((many : Int) - 1) && sumOk many s | _ => false)
  else if k = "say" then (match rest with | [w] => sumOk many w | _ => false)
  else if k = "if" then (match rest with | [w, _, _] => sumOk many w | _ => false)
  else if k = "loop" then (match rest with | [w, ws, _] => sumOk many w && wordsOk many ws | _ => false)
  else false
/-- a row is well, but for the rows within it -/
def rowOk (many : Nat) (d : D) : Bool := match d with
  | .tup (.str k :: rest) => restOk many k rest
  | _ => false
/-- the rows within a row -/
def inner (d : D) : List D := match d with
  | .tup (.str k :: rest) => if k = "if" then rest.drop 1 else if k = "loop" then rest.drop 2 else []
  | _ => []
def addTo (f : D → Option Nat) (c : Nat) (d : D) : Option Nat := (f d).bind fun n => if 12 < c + n then none else some (c + n)
def rowTo (many : Nat) (f : D → Option Nat) (c : Nat) (d : D) : Option Nat := if rowOk many d then (inner d).foldlM (addTo f) c else none
/-- how many rows in all; none where these are no rows of a program (r: how deep it may still go) -/
def chk (many : Nat) : Nat → D → Option Nat
  | 0, _ => none
  | r + 1, .tup rows => if 12 < rows.length then none else rows.foldlM (rowTo many (chk many r)) rows.length
  | _ + 1, _ => none
def topsOk (ts : List D) : Bool := decide (1 ≤ ts.length) && decide (ts.length ≤ 3) && ts.all fun t => fromTo t 0 9

def D.isInt : D → Bool | .int _ => true | _ => false
def D.isTup : D → Bool | .tup _ => true | _ => false
def D.isStr : D → Bool | .str _ => true | _ => false
theorem decInt (d : D) : decide (d.ty = "int") = d.isInt := by cases d <;> simp [D.ty, D.isInt]
theorem decTup (d : D) : decide (d.ty = "tuple") = d.isTup := by cases d <;> simp [D.ty, D.isTup]
theorem decStr (d : D) : decide (d.ty = "str") = d.isStr := by cases d <;> simp [D.ty, D.isStr]
theorem notDec {p : Prop} [Decidable p] {A B : Prop} (h1 : ¬ p → A) (h2 : p → B) : if (!decide p) = true then A else B := by
  by_cases h : p
  · rw [decide_eq_true h]
    exact iteF (h2 h)
  · rw [decide_eq_false h]
    exact iteT (h1 h)
theorem yesDec {p : Prop} [Decidable p] {A B : Prop} (h1 : p → A) (h2 : ¬ p → B) : if decide p = true then A else B := by
  by_cases h : p
  · rw [decide_eq_true h]
    exact iteT (h1 h)
  · rw [decide_eq_false h]
    exact iteF (h2 h)
theorem ifB {b : Bool} {A B : Prop} (h1 : b = true → A) (h2 : b = false → B) : if b = true then A else B := by
  cases b with
  | true => exact iteT (h1 rfl)
  | false => exact iteF (h2 rfl)
theorem intEq {a b : Int} : (V.int a = V.int b) ↔ a = b := ⟨fun h => V.int.inj h, fun h => by rw [h]⟩
theorem strEq {a b : Str} : (V.str a = V.str b) ↔ a = b := ⟨fun h => V.str.inj h, fun h => by rw [h]⟩
theorem sumOk_not {many : Nat} {ds : List D} (h : ds.length ≠ 2) : sumOk many (.tup ds) = false := by
  unfold sumOk
  split
  · rename_i e
    cases e
    exact absurd rfl h
  · rfl
theorem din2 {K : PySem.W.Frag} {H : Hp} {xs : List V} {ds : List D} (h : DinA K H xs ds) (l : ds.length = 2) : ∃ x y dx dy, xs = [x, y] ∧ ds = [dx, dy] ∧ Din K H x dx ∧ Din K H y dy := by
  cases h with
  | nil => simp at l
  | cons h1 t =>
    cases t with
    | nil => simp at l
    | cons h2 t2 =>
      cases t2 with
      | nil => exact ⟨_, _, _, _, rfl, rfl, h1, h2⟩
      | cons h3 t3 => simp at l

theorem allMap {α : Type} (p : α → Bool) (l : List α) : ((l.map p).all id) = l.all p := by
  rw [List.all_map]
  rfl
/-- a comprehension of tests -/
theorem madeBl {H0 H : Hp} {D : Addr} {n : Nat} {α : Type} {ds : List α} {p : α → Bool} (m : Made H0 D (fun i y _ => y = .bl ((ds[i]?.map p).getD false)) n H) (hn : n = ds.length) : H D = some (.lst ((ds.map p).map V.bl)) ∧ Same H0 H := by
  obtain ⟨ys, ly, g, sm, hy⟩ := m
  refine ⟨?_, sm⟩
  rw [g]
  congr 2
  apply List.ext_getElem?
  intro j
  by_cases hj : j < ys.length
  · have hj2 : j < ds.length := by omega
    have := hy j ys[j] (List.getElem?_eq_getElem hj)
    rw [List.getElem?_eq_getElem hj, this]
    simp [hj2]
  · rw [List.getElem?_eq_none (by omega), List.getElem?_eq_none (by simp; omega)]

theorem din1 {K : PySem.W.Frag} {H : Hp} {xs : List V} {ds : List D} (h : DinA K H xs ds) (l : ds.length = 1) : ∃ x dx, xs = [x] ∧ ds = [dx] ∧ Din K H x dx := by
  cases h with
  | nil => simp at l
  | cons h1 t =>
    cases t with
    | nil => exact ⟨_, _, rfl, rfl, h1⟩
    | cons h2 t2 => simp at l
theorem din3 {K : PySem.W.Frag} {H : Hp} {xs : List V} {ds : List D} (h : DinA K H xs ds) (l : ds.length = 3) : ∃ x y z dx dy dz, xs = [x, y, z] ∧ ds = [dx, dy, dz] ∧ Din K H x dx ∧ Din K H y dy ∧ Din K H z dz := by
  cases h with
  | nil => simp at l
  | cons h1 t =>
    obtain ⟨y, z, dy, dz, rfl, rfl, hy, hz⟩ := din2 t (by simpa using l)
    exact ⟨_, _, _, _, _, _, rfl, rfl, h1, hy, hz⟩
end LW

namespace LW
open PySem PySem.Spec PyProof.Rows L2
/-! ### rows that are well, and how many they are -/
def good (many : Nat) : Nat → D → Bool
  | r + 1, .tup rows => rows.all fun row => rowOk many row && (inner row).all (good many r)
  | _, _ => false
def cnt : Nat → D → Nat
  | r + 1, .tup rows => (rows.map fun row => 1 + ((inner row).map (cnt r)).sum).sum
  | _, _ => 0
theorem addFold (f : D → Option Nat) (g : D → Bool) (n : D → Nat) (hf : ∀ d, f d = if g d = true ∧ n d ≤ 12 then some (n d) else none) : ∀ (l : List D) (c : Nat), c ≤ 12 →
    l.foldlM (addTo f) c = if (l.all g) = true ∧ c + (l.map n).sum ≤ 12 then some (c + (l.map n).sum) else none
  | [], c, h => by
    simp
    exact h
  | d :: r, c, h => by
    rw [List.foldlM_cons]
    unfold addTo
    rw [hf d]
    by_cases hd : g d = true ∧ n d ≤ 12
    · rw [if_pos hd]
      by_cases h12 : 12 < c + n d
      · rw [show ((some (n d)).bind fun m => if 12 < c + m then none else some (c + m)) = none by simp [h12]]
        rw [if_neg (by
          rintro ⟨_, q⟩
          simp only [List.map_cons, List.sum_cons] at q
          omega)]
        rfl
      · rw [show ((some (n d)).bind fun m => if 12 < c + m then none else some (c + m)) = some (c + n d) by simp [h12]]
        have ih := addFold f g n hf r (c + n d) (by omega)
        show r.foldlM (addTo f) (c + n d) = _
        rw [ih]
        simp only [List.all_cons, hd.1, Bool.true_and, List.map_cons, List.sum_cons, Nat.add_assoc]
    · rw [if_neg hd]
      rw [if_neg (by
        rintro ⟨q1, q2⟩
        simp only [List.all_cons, Bool.and_eq_true, List.map_cons, List.sum_cons] at q1 q2
        exact hd ⟨q1.1, by omega⟩)]
      rfl
theorem rowFold (many : Nat) (f : D → Option Nat) (g : D → Bool) (n : D → Nat) (hf : ∀ d, f d = if g d = true ∧ n d ≤ 12 then some (n d) else none) : ∀ (l : List D) (c : Nat), c ≤ 12 →
    l.foldlM (rowTo many f) c = if (l.all fun row => rowOk many row && (inner row).all g) = true ∧ c + (l.map fun row => ((inner row).map n).sum).sum ≤ 12 then some (c + (l.map fun row => ((inner row).map n).sum).sum) else none
  | [], c, h => by
    simp
    exact h
  | d :: r, c, h => by
    rw [List.foldlM_cons]
    unfold rowTo
    by_cases ho : rowOk many d = true
    · rw [if_pos ho, addFold f g n hf (inner d) c h]
      by_cases hd : (inner d).all g = true ∧ c + ((inner d).map n).sum ≤ 12
      · rw [if_pos hd]
        have ih := rowFold many f g n hf r _ hd.2
        show r.foldlM (rowTo many f) (c + ((inner d).map n).sum) = _
        rw [ih]
        simp only [List.all_cons, ho, hd.1, Bool.true_and, Bool.and_self, List.map_cons, List.sum_cons, Nat.add_assoc]
      · rw [if_neg hd]
        rw [if_neg (by
          rintro ⟨q1, q2⟩
          simp only [List.all_cons, Bool.and_eq_true, List.map_cons, List.sum_cons] at q1 q2
          exact hd ⟨q1.1.2, by omega⟩)]
        rfl
    · rw [if_neg ho]
      rw [if_neg (by
        rintro ⟨q1, q2⟩
        simp only [List.all_cons, Bool.and_eq_true] at q1
        exact ho q1.1.1)]
      rfl
theorem sum_one {α : Type} (f : α → Nat) : ∀ l : List α, (l.map fun x => 1 + f x).sum = l.length + (l.map f).sum
  | [] => rfl
  | x :: r => by
    simp only [List.map_cons, List.sum_cons, List.length_cons, sum_one f r]
    omega
/-- what the check tells -/
theorem chk_is (many : Nat) : ∀ (r : Nat) (d : D), chk many r d = if good many r d = true ∧ cnt r d ≤ 12 then some (cnt r d) else none
  | 0, d => by
    cases d <;> simp [chk, good]
  | r + 1, d => by
    cases d with
    | tup rows =>
      have e : cnt (r + 1) (.tup rows) = rows.length + (rows.map fun row => ((inner row).map (cnt r)).sum).sum := by
        simp only [cnt]
        exact sum_one _ rows
      simp only [chk]
      by_cases h : 12 < rows.length
      · rw [if_pos h, if_neg (by
          rintro ⟨_, q⟩
          omega)]
      · rw [if_neg h, rowFold many _ (good many r) (cnt r) (chk_is many r) rows rows.length (by omega), e]
        simp only [good]
        congr
    | _ => simp [chk, good]
theorem chk_some {many r : Nat} {d : D} (h : good many r d = true) (h' : cnt r d ≤ 12) : chk many r d = some (cnt r d) := by rw [chk_is, if_pos ⟨h, h'⟩]
theorem chk_none {many r : Nat} {d : D} (h : good many r d = false ∨ 12 < cnt r d) : chk many r d = none := by
  rw [chk_is, if_neg]
  rintro ⟨a, b⟩
  rcases h with h | h
  · rw [h] at a
    cases a
  · omega
/-- a row that is well at a depth -/
def GRow (many r : Nat) (d : D) : Prop := rowOk many d = true ∧ d.pure = true ∧ (inner d).all (good many r) = true
def cntRow (r : Nat) (d : D) : Nat := 1 + ((inner d).map (cnt r)).sum
theorem good_tup {many r : Nat} {ds : List D} (h : ∀ d ∈ ds, GRow many r d) : good many (r + 1) (.tup ds) = true := by
  simp only [good, List.all_eq_true, Bool.and_eq_true]
  exact fun d hd => ⟨(h d hd).1, by have := (h d hd).2.2; rwa [List.all_eq_true] at this⟩
theorem cnt_tup {r : Nat} {ds : List D} : cnt (r + 1) (.tup ds) = (ds.map (cntRow r)).sum := rfl
/-- a sum within the bounds -/
def SumW (many : Nat) (s : Sm) : Prop := s.1.length = many ∧ (∀ n ∈ s.1, -9 ≤ n ∧ n ≤ 9) ∧ -99 ≤ s.2 ∧ s.2 ≤ 99
theorem fromTo_int {i lo hi : Int} (h : lo ≤ i) (h' : i ≤ hi) : fromTo (.int i) lo hi = true := by simp [fromTo, h, h']
theorem sumOk_of {many : Nat} {s : Sm} (h : SumW many s) : sumOk many (dSm s) = true := by
  obtain ⟨h1, h2, h3, h4⟩ := h
  simp only [dSm, sumOk, List.length_map, h1, decide_true, Bool.true_and, fromTo_int h3 h4, Bool.and_true, List.all_map]
  rw [List.all_eq_true]
  intro n hn
  exact fromTo_int (h2 n hn).1 (h2 n hn).2
theorem put_row {many r : Nat} {b : Int} {s : Sm} (h0 : 0 ≤ b) (hb : b < many) (h : SumW many s) : GRow many r (.tup [.str "put", .int b, dSm s]) := by
  have e : ("put" : Str) ≠ "if" ∧ ("put" : Str) ≠ "loop" := by decide +kernel
  refine ⟨?_, ?_, ?_⟩
  · simp [rowOk, restOk, fromTo_int h0 (show b ≤ (many : Int) - 1 by omega), sumOk_of h]
  · simp [D.pure, D.pures, pureSum]
  · simp [inner, e.1, e.2]
theorem say_row {many r : Nat} {s : Sm} (h : SumW many s) : GRow many r (.tup [.str "say", dSm s]) := by
  have e : ("say" : Str) ≠ "if" ∧ ("say" : Str) ≠ "loop" ∧ ("say" : Str) ≠ "put" := by decide +kernel
  refine ⟨?_, ?_, ?_⟩
  · simp [rowOk, restOk, e.2.2, sumOk_of h]
  · simp [D.pure, D.pures, pureSum]
  · simp [inner, e.1, e.2.1]
theorem if_row {many r : Nat} {s : Sm} {a b : List D} (h : SumW many s) (ha : good many r (.tup a) = true) (hb : good many r (.tup b) = true) (pa : D.pures a = true) (pb : D.pures b = true) :
    GRow many r (.tup [.str "if", dSm s, .tup a, .tup b]) := by
  have e : ("if" : Str) ≠ "put" ∧ ("if" : Str) ≠ "say" := by decide +kernel
  refine ⟨?_, ?_, ?_⟩
  · simp [rowOk, restOk, e.1, e.2, sumOk_of h]
  · simp [D.pure, D.pures, pureSum, pa, pb]
  · simp [inner, ha, hb]
theorem loop_row {many r : Nat} {s : Sm} {ws : List Sm} {b : List D} (h : SumW many s) (hw : ∀ w ∈ ws, SumW many w) (hl : ws.length ≤ 3) (hb : good many r (.tup b) = true) (pb : D.pures b = true) :
    GRow many r (.tup [.str "loop", dSm s, .tup (ws.map dSm), .tup b]) := by
  have e : ("loop" : Str) ≠ "put" ∧ ("loop" : Str) ≠ "say" ∧ ("loop" : Str) ≠ "if" := by decide +kernel
  have pw : D.pures (ws.map dSm) = true := by
    have key : ∀ l : List Sm, D.pures (l.map dSm) = true := by
      intro l
      induction l with
      | nil => rfl
      | cons x r ih => simp [D.pures, pureSum, ih]
    exact key ws
  have ww : wordsOk many (.tup (ws.map dSm)) = true := by
    simp only [wordsOk, List.length_map, List.all_map, Bool.and_eq_true, decide_eq_true_eq, List.all_eq_true]
    exact ⟨hl, fun w hw' => sumOk_of (hw w hw')⟩
  refine ⟨?_, ?_, ?_⟩
  · simp [rowOk, restOk, e.1, e.2.1, e.2.2, sumOk_of h, ww]
  · simp [D.pure, D.pures, pureSum, pb, pw]
  · simp [inner, e.2.2, hb]
theorem cnt_if {r : Nat} {s : D} {a b : List D} : cntRow r (.tup [.str "if", s, .tup a, .tup b]) = 1 + cnt r (.tup a) + cnt r (.tup b) := by
  simp [cntRow, inner]
  omega
theorem cnt_loop {r : Nat} {s ws : D} {b : List D} : cntRow r (.tup [.str "loop", s, ws, .tup b]) = 1 + cnt r (.tup b) := by
  have e : ("loop" : Str) ≠ "if" := by decide +kernel
  simp [cntRow, inner, e]
theorem cnt_put {r : Nat} {b s : D} : cntRow r (.tup [.str "put", b, s]) = 1 := by
  have e : ("put" : Str) ≠ "if" ∧ ("put" : Str) ≠ "loop" := by decide +kernel
  simp [cntRow, inner, e.1, e.2]
theorem cnt_say {r : Nat} {s : D} : cntRow r (.tup [.str "say", s]) = 1 := by
  have e : ("say" : Str) ≠ "if" ∧ ("say" : Str) ≠ "loop" := by decide +kernel
  simp [cntRow, inner, e.1, e.2]

/-! ### the state of the drawing -/
def stK (sc tp : Addr) (p l : Int) : List (Key × V) := [(.inr "script", .ref sc), (.inr "at", .int p), (.inr "left", .int l), (.inr "tops", .ref tp)]
theorem stNe : ¬ (("script" : Str) = "at") ∧ ¬ (("script" : Str) = "left") ∧ ¬ (("script" : Str) = "tops") ∧ ¬ (("at" : Str) = "left") ∧ ¬ (("at" : Str) = "tops") ∧ ¬ (("left" : Str) = "tops") := by decide +kernel
theorem keyNe {a b : Str} (h : ¬ a = b) : ¬ ((Sum.inr a : Key) = Sum.inr b) := fun e => h (Sum.inr.inj e)
section
variable {sc tp : Addr} {p l z : Int}
theorem st_script : valV (stK sc tp p l) (.inr "script") = some (.ref sc) := valV_pos rfl
theorem st_at : valV (stK sc tp p l) (.inr "at") = some (.int p) := (valV_neg (keyNe stNe.1)).trans (valV_pos rfl)
theorem st_left : valV (stK sc tp p l) (.inr "left") = some (.int l) := (valV_neg (keyNe stNe.2.1)).trans ((valV_neg (keyNe stNe.2.2.2.1)).trans (valV_pos rfl))
theorem st_tops : valV (stK sc tp p l) (.inr "tops") = some (.ref tp) := (valV_neg (keyNe stNe.2.2.1)).trans ((valV_neg (keyNe stNe.2.2.2.2.1)).trans ((valV_neg (keyNe stNe.2.2.2.2.2)).trans (valV_pos rfl)))
theorem put_at_ : putK (stK sc tp p l) (.inr "at") (.int z) = stK sc tp z l := by
  unfold putK
  rw [valV_any, st_at]
  simp only [Option.isSome_some, if_true, stK, List.map_cons, List.map_nil]
  rw [if_neg (keyNe stNe.1), if_neg (keyNe fun e => stNe.2.2.2.1 e.symm), if_neg (keyNe fun e => stNe.2.2.2.2.1 e.symm)]
theorem put_left_ : putK (stK sc tp p l) (.inr "left") (.int z) = stK sc tp p z := by
  unfold putK
  rw [valV_any, st_left]
  simp only [Option.isSome_some, if_true, stK, List.map_cons, List.map_nil]
  rw [if_neg (keyNe stNe.2.1), if_neg (keyNe stNe.2.2.2.1), if_neg (keyNe fun e => stNe.2.2.2.2.2 e.symm)]
end
/-- all but ds as it was -/
def But (ds : Addr) (H H' : Hp) : Prop := ∀ b o, b ≠ ds → H b = some o → H' b = some o
theorem But.refl (ds : Addr) (H : Hp) : But ds H H := fun _ _ _ h => h
theorem But.trans {ds : Addr} {H H1 H2 : Hp} (a : But ds H H1) (b : But ds H1 H2) : But ds H H2 := fun c o n h => b c o n (a c o n h)
theorem butOf {ds : Addr} {H H' : Hp} (e : Same H H') : But ds H H' := fun b o _ h => e b o h
theorem butSeq {K : PySem.W.Frag} {ds a : Addr} {H H' : Hp} {xs : List V} {kvs : List (Key × V)} (e : But ds H H') (hd : H ds = some (.dK kvs)) (h : SqL K H a xs) : SqL K H' a xs := by
  rcases h with (h | ⟨o, h⟩) | h
  · exact .inl (.inl (e _ _ (fun z => by rw [z, hd] at h; cases h) h))
  · exact .inl (.inr ⟨o, e _ _ (fun z => by rw [z, hd] at h; cases h) h⟩)
  · exact .inr h
theorem butTS {ds : Addr} {H H' : Hp} {kvs : List (Key × V)} (e : But ds H H') (hd : H ds = some (.dK kvs)) : TS H H' := fun a =>
  ⟨fun xs h => e _ _ (fun z => by rw [z, hd] at h; cases h) h, fun o u h => by
    by_cases z : a = ds
    · subst z
      rw [hd] at h
      cases h
    · exact e _ _ z h⟩
def TopsW (tops : List Int) : Prop := 1 ≤ tops.length ∧ tops.length ≤ 3 ∧ ∀ t ∈ tops, 0 ≤ t ∧ t ≤ 9
structure Stt (K : PySem.W.Frag) (H : Hp) (ds sc tp : Addr) (script tops : List Int) (p l : Int) : Prop where
  d : H ds = some (.dK (stK sc tp p l))
  s : SqL K H sc (script.map V.int)
  s63 : script.length ≤ 63
  t : SqL K H tp (tops.map V.int)
  w : TopsW tops
section
variable {K : PySem.W.Frag} {H H' : Hp} {ds sc tp : Addr} {script tops : List Int} {p l z : Int}
theorem Stt.gS (h : Stt K H ds sc tp script tops p l) : DGet H ds (.str "script") (some (.ref sc)) := by
  have q := DGet.k (k := Sum.inr "script") h.d
  rw [st_script] at q
  exact q
theorem Stt.gA (h : Stt K H ds sc tp script tops p l) : DGet H ds (.str "at") (some (.int p)) := by
  have q := DGet.k (k := Sum.inr "at") h.d
  rw [st_at] at q
  exact q
theorem Stt.gL (h : Stt K H ds sc tp script tops p l) : DGet H ds (.str "left") (some (.int l)) := by
  have q := DGet.k (k := Sum.inr "left") h.d
  rw [st_left] at q
  exact q
theorem Stt.gT (h : Stt K H ds sc tp script tops p l) : DGet H ds (.str "tops") (some (.ref tp)) := by
  have q := DGet.k (k := Sum.inr "tops") h.d
  rw [st_tops] at q
  exact q
theorem stLine : (stK sc tp p l).length < sizeLine := by
  show 4 < sizeLine
  decide
theorem Stt.pA (h : Stt K H ds sc tp script tops p l) (z : Int) : DPut H ds (.str "at") (.int z) (upd H ds (.dK (stK sc tp z l))) := by
  have q := DPut.k (k := Sum.inr "at") (v := .int z) h.d stLine
  rw [put_at_] at q
  exact q
theorem Stt.pL (h : Stt K H ds sc tp script tops p l) (z : Int) : DPut H ds (.str "left") (.int z) (upd H ds (.dK (stK sc tp p z))) := by
  have q := DPut.k (k := Sum.inr "left") (v := .int z) h.d stLine
  rw [put_left_] at q
  exact q
theorem butUpd {o : HO} : But ds H (upd H ds o) := fun b u n h => by rw [upd_ne n]; exact h
theorem Stt.to (h : Stt K H ds sc tp script tops p l) {p' l' : Int} (e : But ds H H') (hd : H' ds = some (.dK (stK sc tp p' l'))) : Stt K H' ds sc tp script tops p' l' := ⟨hd, butSeq e h.d h.s, h.s63, butSeq e h.d h.t, h.w⟩
theorem Stt.setA (h : Stt K H ds sc tp script tops p l) (z : Int) : Stt K (upd H ds (.dK (stK sc tp z l))) ds sc tp script tops z l := h.to butUpd upd_same
theorem Stt.setL (h : Stt K H ds sc tp script tops p l) (z : Int) : Stt K (upd H ds (.dK (stK sc tp p z))) ds sc tp script tops p z := h.to butUpd upd_same
theorem Stt.same (h : Stt K H ds sc tp script tops p l) (e : Same H H') : Stt K H' ds sc tp script tops p l := h.to (butOf e) (e _ _ h.d)
end

theorem pures_of {ds : List D} (h : ∀ d ∈ ds, d.pure = true) : D.pures ds = true := by
  induction ds with
  | nil => rfl
  | cons d r ih =>
    simp only [D.pures, Bool.and_eq_true]
    exact ⟨h d (List.mem_cons_self ..), ih fun x hx => h x (List.mem_cons_of_mem _ hx)⟩
theorem orB {t u : TT} {σ : L2.St} {H : Hp} {Q : Bool → Hp → Prop} (b1 b2 : Bool) (h1 : ∀ R : Bool → Hp → Prop, R b1 H → t σ H R) (h2 : ∀ R : Bool → Hp → Prop, R b2 H → u σ H R) (q : Q (b1 || b2) H) : tOr t u σ H Q := h1 _ (by
  cases b1 with
  | true => exact iteT q
  | false => exact iteF (h2 _ q))
theorem andB {t u : TT} {σ : L2.St} {H : Hp} {Q : Bool → Hp → Prop} (b1 b2 : Bool) (h1 : ∀ R : Bool → Hp → Prop, R b1 H → t σ H R) (h2 : ∀ R : Bool → Hp → Prop, R b2 H → u σ H R) (q : Q (b1 && b2) H) : tAnd t u σ H Q := h1 _ (by
  cases b1 with
  | true => exact iteT (h2 _ q)
  | false => exact iteF q)
theorem catUse {K : PySem.W.Frag} {H : Hp} {Q : VK} {a b : Addr} {xs ys : List V} (ha : SqT K H a xs) (hb : SqT K H b ys) (hl : xs.length + ys.length ≤ 100000) (q : ∀ (r : Addr) (H' : Hp), Same H H' → SqT K H' r (xs ++ ys) → Q (.ref r) H') : rCatA K (.ref a) (.ref b) H Q := by
  refine ⟨a, b, xs, ys, rfl, rfl, ha, hb, Nat.le_trans hl (by decide), fun e => ?_, fun _ e => ?_, fun _ _ p np => ?_⟩
  · refine q b H (Same.refl _) ?_
    rw [e]
    exact hb
  · refine q a H (Same.refl _) ?_
    rw [e, List.append_nil]
    exact ha
  · exact q p _ (sameNew np) (.of upd_same)
end LW

namespace LW
open PySem PySem.Spec PyProof.Rows L2
/-! ### the rows of a program, in their order -/
def rowsOf : D → List D
  | .tup rs => rs
  | _ => []
abbrev Pd := List Nat × D
def plRow (f : List D → List Nat → List Pd) (place : List Nat) (d : D) : List Pd := (place, d) :: (inner d).zipIdx.flatMap fun q => f (rowsOf q.1) (place ++ [q.2])
def plD : Nat → List D → List Nat → List Pd
  | 0, _, _ => []
  | r + 1, rows, ahead => rows.zipIdx.flatMap fun q => plRow (plD r) (ahead ++ [q.2]) q.1
theorem flatTake {β : Type} {rows : List D} {f : D × Nat → List β} {i : Nat} {d : D} (e : rows[i]? = some d) : (rows.take (i + 1)).zipIdx.flatMap f = (rows.take i).zipIdx.flatMap f ++ f (d, i) := by
  obtain ⟨hi, e1⟩ := List.getElem?_eq_some_iff.mp e
  subst e1
  rw [List.take_succ_eq_append_getElem hi, List.zipIdx_append, List.flatMap_append]
  simp [Nat.min_eq_left (Nat.le_of_lt hi)]
theorem zipSum (f : D → Nat) : ∀ (l : List D) (n : Nat), ((l.zipIdx n).map fun q => f q.1).sum = (l.map f).sum
  | [], _ => rfl
  | x :: r, n => by simp [List.zipIdx_cons, zipSum f r (n + 1)]
theorem plLen : ∀ (r : Nat) (rows : List D) (ahead : List Nat), (plD r rows ahead).length = cnt r (.tup rows)
  | 0, _, _ => by simp [plD, cnt]
  | r + 1, rows, ahead => by
    have h : ∀ (x : D) (pl : List Nat), (plD r (rowsOf x) pl).length = cnt r x := by
      intro x pl
      cases x with
      | tup rs => exact plLen r rs pl
      | _ => rw [plLen r]; cases r <;> simp [rowsOf, cnt]
    simp only [plD, cnt, List.length_flatMap, plRow, List.length_cons, h]
    rw [show (rows.zipIdx.map fun a => (((inner a.1).zipIdx.map fun q => cnt r q.1).sum + 1)) = rows.zipIdx.map fun a => (fun d => 1 + ((inner d).map (cnt r)).sum) a.1 from List.map_congr_left fun a _ => by
      rw [zipSum (cnt r), Nat.add_comm]]
    exact zipSum (fun d => 1 + ((inner d).map (cnt r)).sum) rows 0
/-- a row that is well, in its four kinds -/
theorem rowKinds {many : Nat} {d : D} (h : rowOk many d = true) : (∃ b s, d = .tup [.str "put", b, s]) ∨ (∃ w, d = .tup [.str "say", w]) ∨ (∃ w a b, d = .tup [.str "if", w, a, b]) ∨ ∃ w ws b, d = .tup [.str "loop", w, ws, b] := by
  unfold rowOk at h
  split at h
  · rename_i k rest
    unfold restOk at h
    split at h
    · rename_i e
      subst e
      split at h
      · exact .inl ⟨_, _, rfl⟩
      · cases h
    · split at h
      · rename_i e
        subst e
        split at h
        · exact .inr (.inl ⟨_, rfl⟩)
        · cases h
      · split at h
        · rename_i e
          subst e
          split at h
          · exact .inr (.inr (.inl ⟨_, _, _, rfl⟩))
          · cases h
        · split at h
          · rename_i e
            subst e
            split at h
            · exact .inr (.inr (.inr ⟨_, _, _, rfl⟩))
            · cases h
          · cases h
  · cases h
theorem kinds : ("put" : Str) ≠ "if" ∧ ("put" : Str) ≠ "loop" ∧ ("say" : Str) ≠ "if" ∧ ("say" : Str) ≠ "loop" ∧ ("loop" : Str) ≠ "if" ∧ ("if" : Str) ≠ "loop" ∧ ("put" : Str) ≠ "say" := by decide +kernel
theorem in_put {b s : D} : inner (.tup [.str "put", b, s]) = [] := by simp [inner, kinds]
theorem in_say {s : D} : inner (.tup [.str "say", s]) = [] := by simp [inner, kinds]
theorem in_if {s a b : D} : inner (.tup [.str "if", s, a, b]) = [a, b] := by simp [inner]
theorem in_loop {s ws b : D} : inner (.tup [.str "loop", s, ws, b]) = [b] := by simp [inner, kinds]
theorem purePart {ds : List D} (h : D.pures ds = true) {d : D} (m : d ∈ ds) : d.pure = true := by
  induction ds with
  | nil => cases m
  | cons x r ih =>
    simp only [D.pures, Bool.and_eq_true] at h
    rcases List.mem_cons.mp m with e | m
    · exact e ▸ h.1
    · exact ih h.2 m
theorem goodInv {many r : Nat} {x : D} (h : good many r x = true) (p : x.pure = true) : ∃ r' rs, r = r' + 1 ∧ x = .tup rs ∧ ∀ d ∈ rs, GRow many r' d := by
  cases r with
  | zero => simp [good] at h
  | succ r =>
    cases x with
    | tup rs =>
      simp only [good, List.all_eq_true, Bool.and_eq_true] at h
      exact ⟨r, rs, rfl, rfl, fun d hd => ⟨(h d hd).1, purePart p hd, by rw [List.all_eq_true]; exact (h d hd).2⟩⟩
    | _ => simp [good] at h
/-- a row of a drawing, in its four kinds, with what is within -/
theorem gKinds {many r : Nat} {d : D} (h : GRow many r d) : (∃ b s, d = .tup [.str "put", b, s]) ∨ (∃ w, d = .tup [.str "say", w]) ∨
    (∃ r' w a b, r = r' + 1 ∧ d = .tup [.str "if", w, .tup a, .tup b] ∧ (∀ x ∈ a, GRow many r' x) ∧ ∀ x ∈ b, GRow many r' x) ∨ ∃ r' w ws b, r = r' + 1 ∧ d = .tup [.str "loop", w, ws, .tup b] ∧ ∀ x ∈ b, GRow many r' x := by
  obtain ⟨h1, h2, h3⟩ := h
  rcases rowKinds h1 with ⟨b, s, rfl⟩ | ⟨w, rfl⟩ | ⟨w, a, b, rfl⟩ | ⟨w, ws, b, rfl⟩
  · exact .inl ⟨b, s, rfl⟩
  · exact .inr (.inl ⟨w, rfl⟩)
  · rw [in_if] at h3
    simp only [List.all_cons, List.all_nil, Bool.and_true, Bool.and_eq_true] at h3
    have pa : a.pure = true := purePart (ds := [.str "if", w, a, b]) h2 (by simp)
    have pb : b.pure = true := purePart (ds := [.str "if", w, a, b]) h2 (by simp)
    obtain ⟨r', as, e1, rfl, ga⟩ := goodInv h3.1 pa
    obtain ⟨r2, bs, e2, rfl, gb⟩ := goodInv h3.2 pb
    have : r2 = r' := by omega
    subst this
    exact .inr (.inr (.inl ⟨_, w, as, bs, e1, rfl, ga, gb⟩))
  · rw [in_loop] at h3
    simp only [List.all_cons, List.all_nil, Bool.and_true] at h3
    have pb : b.pure = true := purePart (ds := [.str "loop", w, ws, b]) h2 (by simp)
    obtain ⟨r', bs, e1, rfl, gb⟩ := goodInv h3 pb
    exact .inr (.inr (.inr ⟨_, w, ws, bs, e1, rfl, gb⟩))
theorem cntMem {r : Nat} {rows : List D} {d : D} (m : d ∈ rows) : cntRow r d ≤ cnt (r + 1) (.tup rows) := by
  rw [cnt_tup]
  induction rows with
  | nil => cases m
  | cons x t ih =>
    rw [List.map_cons, List.sum_cons]
    rcases List.mem_cons.mp m with e | m
    · subst e; omega
    · have := ih m; omega
theorem cntTake {r : Nat} {rows : List D} {j : Nat} : cnt (r + 1) (.tup (rows.take j)) ≤ cnt (r + 1) (.tup rows) := by
  rw [cnt_tup, cnt_tup]
  induction rows generalizing j with
  | nil => simp
  | cons x t ih =>
    cases j with
    | zero => simp
    | succ j =>
      rw [List.take_succ_cons, List.map_cons, List.sum_cons, List.map_cons, List.sum_cons]
      have := ih (j := j)
      omega
theorem plTake {r : Nat} {rows : List D} {ahead : List Nat} {j : Nat} {d : D} (e : rows[j]? = some d) : plD (r + 1) (rows.take (j + 1)) ahead = plD (r + 1) (rows.take j) ahead ++ plRow (plD r) (ahead ++ [j]) d := flatTake e
theorem plR_put {f : List D → List Nat → List Pd} {place : List Nat} {b s : D} : plRow f place (.tup [.str "put", b, s]) = [(place, .tup [.str "put", b, s])] := by simp [plRow, in_put]
theorem plR_say {f : List D → List Nat → List Pd} {place : List Nat} {s : D} : plRow f place (.tup [.str "say", s]) = [(place, .tup [.str "say", s])] := by simp [plRow, in_say]
theorem plR_if {f : List D → List Nat → List Pd} {place : List Nat} {s : D} {a b : List D} : plRow f place (.tup [.str "if", s, .tup a, .tup b]) = (place, .tup [.str "if", s, .tup a, .tup b]) :: (f a (place ++ [0]) ++ f b (place ++ [1])) := by simp [plRow, in_if, List.zipIdx_cons, rowsOf]
theorem plR_loop {f : List D → List Nat → List Pd} {place : List Nat} {s ws : D} {b : List D} : plRow f place (.tup [.str "loop", s, ws, .tup b]) = (place, .tup [.str "loop", s, ws, .tup b]) :: f b (place ++ [0]) := by simp [plRow, in_loop, List.zipIdx_cons, rowsOf]
/-! ### a list of places and rows -/
def nats (p : List Nat) : List V := p.map fun n => V.int (n : Nat)
def PlIn (K : PySem.W.Frag) (H : Hp) (v : V) (p : Pd) : Prop := ∃ t pa rv, v = .ref t ∧ SqT K H t [.ref pa, rv] ∧ SqT K H pa (nats p.1) ∧ Din K H rv p.2
inductive A2 {α β : Type} (R : α → β → Prop) : List α → List β → Prop
  | nil : A2 R [] []
  | cons {a : α} {b : β} {as : List α} {bs : List β} (h : R a b) (t : A2 R as bs) : A2 R (a :: as) (b :: bs)
section
variable {α β : Type} {R S : α → β → Prop}
theorem A2.app : ∀ {a c : List α} {b d : List β}, A2 R a b → A2 R c d → A2 R (a ++ c) (b ++ d)
  | _, _, _, _, .nil, h => h
  | _, _, _, _, .cons r t, h => .cons r (A2.app t h)
theorem A2.len : ∀ {a : List α} {b : List β}, A2 R a b → a.length = b.length
  | _, _, .nil => rfl
  | _, _, .cons _ t => by rw [List.length_cons, List.length_cons, A2.len t]
theorem A2.map {B' : List β} (f : ∀ a b, b ∈ B' → R a b → S a b) : ∀ {a : List α} {b : List β}, (∀ x ∈ b, x ∈ B') → A2 R a b → A2 S a b
  | _, _, _, .nil => .nil
  | _, _, m, .cons r t => .cons (f _ _ (m _ List.mem_cons_self) r) (A2.map f (fun x hx => m x (List.mem_cons_of_mem _ hx)) t)
theorem A2.at : ∀ {a : List α} {b : List β} {i : Nat} {x : α}, A2 R a b → a[i]? = some x → ∃ y, b[i]? = some y ∧ R x y
  | _, _, _, _, .nil, e => by simp at e
  | _, _, 0, _, .cons h _, e => by
    simp at e
    subst e
    exact ⟨_, rfl, h⟩
  | _, _, i + 1, v, .cons _ t, e => by
    obtain ⟨d, h1, h2⟩ := A2.at (i := i) t (by simpa using e)
    exact ⟨d, by simpa using h1, h2⟩
theorem A2.atR : ∀ {a : List α} {b : List β} {i : Nat} {y : β}, A2 R a b → b[i]? = some y → ∃ x, a[i]? = some x ∧ R x y
  | _, _, _, _, .nil, e => by simp at e
  | _, _, 0, _, .cons h _, e => by
    simp at e
    subst e
    exact ⟨_, rfl, h⟩
  | _, _, i + 1, v, .cons _ t, e => by
    obtain ⟨d, h1, h2⟩ := A2.atR (i := i) t (by simpa using e)
    exact ⟨d, by simpa using h1, h2⟩
end
def PlL (K : PySem.W.Frag) (H : Hp) (vs : List V) (ps : List Pd) : Prop := A2 (PlIn K H) vs ps
theorem plTS {K : PySem.W.Frag} {H H' : Hp} {vs : List V} {ps : List Pd} (e : TS H H') (hp : ∀ p ∈ ps, p.2.pure = true) (h : PlL K H vs ps) : PlL K H' vs ps :=
  A2.map (B' := ps) (fun v p m ⟨t, pa, rv, e0, h1, h2, h3⟩ => ⟨t, pa, rv, e0, tsTup e h1, tsTup e h2, dinTS e (hp p m) h3⟩) (fun _ m => m) h
theorem plPure {many : Nat} : ∀ (r : Nat) (rows : List D) (ahead : List Nat), (∀ d ∈ rows, ∃ r', GRow many r' d) → ∀ p ∈ plD r rows ahead, p.2.pure = true ∧ ∃ r', GRow many r' p.2
  | 0, _, _, _, p, m => by cases m
  | r + 1, rows, ahead, h, p, m => by
    rw [plD, List.mem_flatMap] at m
    obtain ⟨⟨d, i⟩, hm, m⟩ := m
    have hd : d ∈ rows := by
      have := List.mem_zipIdx hm
      simp at this
      rw [this.2]
      exact List.getElem_mem _
    obtain ⟨r', g⟩ := h d hd
    rcases List.mem_cons.mp m with e | m
    · subst e
      exact ⟨g.2.1, r', g⟩
    · rw [List.mem_flatMap] at m
      obtain ⟨⟨x, j⟩, hx, m⟩ := m
      have hxi : x ∈ inner d := by
        have := List.mem_zipIdx hx
        simp at this
        rw [this.2]
        exact List.getElem_mem _
      refine plPure r (rowsOf x) _ (fun y hy => ?_) p m
      rcases gKinds g with ⟨b, s, rfl⟩ | ⟨w, rfl⟩ | ⟨r2, w, a, b, rfl, rfl, ga, gb⟩ | ⟨r2, w, ws, b, rfl, rfl, gb⟩
      · rw [in_put] at hxi; cases hxi
      · rw [in_say] at hxi; cases hxi
      · rw [in_if] at hxi
        rcases List.mem_cons.mp hxi with e | e
        · subst e; exact ⟨_, ga y hy⟩
        · rw [List.mem_singleton.mp e] at hy; exact ⟨_, gb y hy⟩
      · rw [in_loop] at hxi
        rw [List.mem_singleton.mp hxi] at hy
        exact ⟨_, gb y hy⟩
end LW
namespace LW
open PySem PySem.Spec PyProof.Rows L2
/-! ### the row at a place -/
def look1 : D → List Nat → Option D
  | d, [] => some d
  | _, [_] => none
  | d, w :: n :: rest => ((inner d)[w]?).bind fun x => ((rowsOf x)[n]?).bind fun d' => look1 d' rest
def lookR (rows : List D) : List Nat → Option D
  | [] => none
  | n :: rest => (rows[n]?).bind fun d => look1 d rest
theorem plLook : ∀ (r : Nat) (rows : List D) (ahead : List Nat) (p : Pd), p ∈ plD r rows ahead → ∃ rest, p.1 = ahead ++ rest ∧ lookR rows rest = some p.2 ∧ rest.length + 1 ≤ 2 * r
  | 0, _, _, p, m => by cases m
  | r + 1, rows, ahead, p, m => by
    rw [plD, List.mem_flatMap] at m
    obtain ⟨⟨d, n⟩, hm, m⟩ := m
    have hd : rows[n]? = some d := by
      have := List.mem_zipIdx hm
      simp at this
      exact (List.getElem?_eq_getElem this.1).trans (congrArg some this.2.symm)
    rcases List.mem_cons.mp m with e | m
    · subst e
      exact ⟨[n], rfl, by simp [lookR, hd, look1], by simp; omega⟩
    · rw [List.mem_flatMap] at m
      obtain ⟨⟨x, w⟩, hx, m⟩ := m
      have hxi : (inner d)[w]? = some x := by
        have := List.mem_zipIdx hx
        simp at this
        exact (List.getElem?_eq_getElem this.1).trans (congrArg some this.2.symm)
      obtain ⟨rest, e1, e2, e3⟩ := plLook r (rowsOf x) _ p m
      cases rest with
      | nil => cases e2
      | cons k rest =>
        refine ⟨n :: w :: k :: rest, by rw [e1]; simp, ?_, by simp at e3 ⊢; omega⟩
        simp only [lookR, hd, Option.bind_some, look1, hxi] at e2 ⊢
        exact e2
/-- no row of any program -/
def Bad (many : Nat) (d : D) : Prop := ∀ r, (rowOk many d && (inner d).all (good many r)) = false
theorem badNot {many : Nat} {d : D} (h : rowOk many d = false) : Bad many d := fun r => by rw [h]; rfl
theorem badIn {many : Nat} {d x : D} (m : x ∈ inner d) (h : ∀ r, good many r x = false) : Bad many d := fun r => by
  rw [Bool.and_eq_false_iff]
  refine .inr (Bool.eq_false_iff.mpr fun z => ?_)
  rw [List.all_eq_true] at z
  have := z x m
  rw [h r] at this
  cases this
theorem badRows {many : Nat} {ds : List D} {d : D} (m : d ∈ ds) (h : Bad many d) : ∀ r, good many r (.tup ds) = false := fun r => by
  cases r with
  | zero => rfl
  | succ r =>
    refine Bool.eq_false_iff.mpr fun z => ?_
    simp only [good, List.all_eq_true] at z
    have := z d m
    rw [h r] at this
    cases this
theorem slUse {K : PySem.W.Frag} {H : Hp} {Q : VK} {a : Addr} {xs : List V} {lo hi : Option Int} (h : SqT K H a xs) (q : ∀ (r : Addr) (H' : Hp), Same H H' → SqT K H' r (cutV xs lo hi) → Q (.ref r) H') : rSlA K (.ref a) lo hi H Q := by
  refine ⟨a, xs, rfl, h, fun e => q a H (Same.refl _) ?_, fun _ p np => q p _ (sameNew np) (.of upd_same)⟩
  unfold cutV
  rw [e.1, e.2, List.drop_zero, Nat.sub_zero, List.take_length]
  exact h
theorem slUseN {K : PySem.W.Frag} {H : Hp} {σ : L2.St} {Q : VK} {a : Addr} {xs : List V} {lo : Option Int} (h : SqT K H a xs) (q : ∀ (r : Addr) (H' : Hp), Same H H' → SqT K H' r (cutV xs lo none) → Q (.ref r) H') : tNoPart σ H fun u H3 => rSlA K (.ref a) lo u H3 Q := slUse h q
theorem cutTake {xs : List V} (n : Nat) : cutV xs none (some (n : Int)) = xs.take n := by
  unfold cutV
  rw [HT.sIx_none, HT.sIx_nat, List.drop_zero, Nat.sub_zero]
  rcases Nat.le_total n xs.length with h | h
  · rw [Nat.min_eq_left h]
  · rw [Nat.min_eq_right h, List.take_length, List.take_of_length_le h]
theorem cutDrop {xs : List V} (n : Nat) : cutV xs (some (n : Int)) none = xs.drop n := by
  unfold cutV
  rw [HT.sIx_none, HT.sIx_nat]
  rcases Nat.le_total n xs.length with h | h
  · rw [Nat.min_eq_left h, List.take_of_length_le (by simp)]
  · rw [Nat.min_eq_right h, Nat.sub_self, List.take_zero, List.drop_eq_nil_of_le h]
/-! data stands while a list is changed -/
section
variable {K : PySem.W.Frag} {H : Hp} {L : Addr} {xs ys : List V}
mutual
theorem dinMut (e : H L = some (.lst xs)) : ∀ {d : D} {v : V}, Din K H v d → Din K (upd H L (.lst ys)) v d
  | .non, _, .non => .non
  | .bl _, _, .bl b => .bl b
  | .int _, _, .int i => .int i
  | .str _, _, .str s => .str s
  | .lst, _, .lst (a := a) h => by
    by_cases z : a = L
    · subst z
      exact .lst (.of upd_same)
    · rcases h with (h | ⟨o, h⟩) | h
      · exact .lst (.inl (.inl (by rw [upd_ne z]; exact h)))
      · exact .lst (.inl (.inr ⟨o, by rw [upd_ne z]; exact h⟩))
      · exact .lst (.inr h)
  | .dct, _, .dct (a := a) h => .dct (by rw [upd_ne (fun z => by rw [z, e] at h; cases h)]; exact h)
  | .tup ds, _, .tup h t => .tup (tsTup (tsLst e) h) (dinAMut e t)
theorem dinAMut (e : H L = some (.lst xs)) : ∀ {ds : List D} {vs : List V}, DinA K H vs ds → DinA K (upd H L (.lst ys)) vs ds
  | [], _, .nil => .nil
  | _ :: _, _, .cons h t => .cons (dinMut e h) (dinAMut e t)
end
end
theorem natsAt {p : List Nat} {j n : Nat} (h : p[j]? = some n) : (nats p)[j]? = some (.int (n : Int)) := by simp [nats, h]
end LW

namespace LW
open PySem PySem.Spec PyProof.Rows L2
theorem tuple_mul1 (l : Addr) (items : Array Value) (n : Nat) (dd : Option Addr) (sl : Array (Option Value)) (x : Int) (u : Tok) (c0 : (decide (x < -(2 ^ 63)) || decide (x ≥ 2 ^ 63)) = false) (c1 : (items.isEmpty || x == 1) = true) :
    Meets (Builtin.«tuple.__mul__» ⟨[.ref l, .int x u], []⟩) (fun _ R s => s.heap.get? l = some { cls := .type "tuple", dict := dd, data := .seq items n, slots := sl } ∧
      R (.ok (.ret (Value.ref l))) s) :=
  .of_wp fun prog w A R s h => by
    obtain ⟨hp, g, d, tk, os⟩ := s
    obtain ⟨hl, h⟩ := h
    have f1 := AutoSeq1.idx_int
    wp_walk using wpAny_loadPart' hl
    repeat (first
      | (refine wpAny_ite_false (decide_eq_false (by rw [c0]; exact Bool.false_ne_true)) ?_; wp_walk using wpAny_loadPart' hl)
      | (refine wpAny_ite_true (decide_eq_true (by rw [c1])) ?_; wp_walk using wpAny_loadPart' hl))
    exact ⟨_, rfl, h⟩
def rRepA (K : PySem.W.Frag) : R2 := fun x y H Q => ∃ l k xs, x = .ref l ∧ y = .int k ∧ SqT K H l xs ∧ xs ≠ [] ∧ 1 ≤ k ∧ k ≤ 1000 ∧ xs.length ≤ 1000 ∧ (k = 1 → Q (.ref l) H) ∧ (2 ≤ k → ∀ p, H p = none → Q (.ref p) (upd H p (.tup (List.replicate k.toNat xs).flatten)))
theorem op_repA {X : Cx} : OpR X (binaryOp .Mult) (rRepA X.K) := by
  intro pins s σ H x y v u Q I rx ry h
  obtain ⟨l, k, xs, rfl, rfl, hT, hne, h1, h2, hz, q1, q2⟩ := h
  by_cases hk : k = 1
  · subst hk
    have hT0 := hT
    have rx0 := rx
    cases rx
    obtain ⟨t, rfl⟩ := ry
    obtain ⟨its, r, ⟨⟨cls, dd, data, sl⟩, ho, hc, n, hd⟩, hs⟩ := I.tuple hT
    simp only at hc hd
    subst hc hd
    refine wpAny_binaryOp_repeat_ref (T := "tuple") (U := "int") (by decide) ⟨_, ho, rfl⟩ (fun s' => typeIs_int s' 1 t) noFill_tuple_mul F.fills_int_mul F.slot_int_rmul repeat_tuple F.slot_int_index.lookup
      (call_meets F.slot_int_rmul (typeIs_int s 1 t) F.entry_int_rmul (F.args_int_rmul_2 _ _) (int_rmul_tuple 1 t l its.toArray n dd sl)
        ⟨ho, rfl, ⟨_, ho, rfl⟩, call_meets F.slot_tuple_mul ⟨_, ho, rfl⟩ F.entry_tuple_mul (F.args_tuple_mul_2 _ _) (tuple_mul1 l its.toArray n dd sl 1 t (by decide) (by rw [Bool.or_eq_true]; exact .inr rfl)) ⟨ho, ?_⟩⟩)
    exact ⟨.ref l, H, I, rfl, q1 rfl⟩
  · exact op_repT pins s σ H (.ref l) (.int k) v u Q I rx ry ⟨l, k, xs, rfl, rfl, hT, hne, by omega, h2, hz, q2 (by omega)⟩
theorem kRepA {X : Cx} {K : PySem.W.Frag} (h : X.K = K) : OpR X (binaryOp .Mult) (rRepA K) := by subst h; exact op_repA
theorem repUse {K : PySem.W.Frag} {H : Hp} {Q : VK} {a : Addr} {v : V} {n : Nat} (h : SqT K H a [v]) (h1 : 1 ≤ n) (h2 : n ≤ 1000) (q : ∀ (r : Addr) (H' : Hp), Same H H' → SqT K H' r (List.replicate n v) → Q (.ref r) H') : rRepA K (.ref a) (.int (n : Int)) H Q := by
  refine ⟨a, n, [v], rfl, rfl, h, by simp, by omega, by omega, by simp, fun e => ?_, fun e p np => ?_⟩
  · have : n = 1 := by omega
    subst this
    exact q a H (Same.refl _) h
  · refine q p _ (sameNew np) (.of ?_)
    rw [upd_same, show ((n : Int)).toNat = n by omega]
    simp
theorem repUseC {K : PySem.W.Frag} {H : Hp} {σ : L2.St} {Q : VK} {a : Addr} {v : V} {n : Nat} (h : SqT K H a [v]) (h1 : 1 ≤ n) (h2 : n ≤ 1000) (q : ∀ (r : Addr) (H' : Hp), Same H H' → SqT K H' r (List.replicate n v) → Q (.ref r) H') : tC (.int (n : Int)) σ H fun y H3 => rRepA K (.ref a) y H3 Q := repUse h h1 h2 q
end LW

namespace LW
open PySem PySem.Spec PyProof.Rows L2
/-! ### data to compare -/
mutual
def toPy : D → PyData
  | .non => .none
  | .bl b => .bool b
  | .int i => .int i
  | .str s => .str s
  | .lst => .none
  | .dct => .none
  | .tup ds => .tuple (toPys ds)
def toPys : List D → List PyData
  | [] => []
  | d :: r => toPy d :: toPys r
end
section
variable {K : PySem.W.Frag} {H : Hp}
mutual
theorem dpD : ∀ {d : D} {v : V}, d.pure = true → Din K H v d → Dp K H v (toPy d)
  | .non, _, _, .non => .non
  | .bl _, _, _, .bl b => .bl b
  | .int _, _, _, .int i => .int i
  | .str _, _, _, .str s => .str s
  | .lst, _, p, _ => by simp [D.pure] at p
  | .dct, _, p, _ => by simp [D.pure] at p
  | .tup ds, _, p, .tup h t => .tup h (dpDA (by simpa [D.pure] using p) t)
theorem dpDA : ∀ {ds : List D} {vs : List V}, D.pures ds = true → DinA K H vs ds → DpAll K H vs (toPys ds)
  | [], _, _, .nil => .nil
  | _ :: _, _, p, .cons h t => by
    simp only [D.pures, Bool.and_eq_true] at p
    exact .cons (dpD p.1 h) (dpDA p.2 t)
end
end
theorem toPys_map : ∀ ds : List D, toPys ds = ds.map toPy
  | [] => rfl
  | d :: r => by rw [toPys, toPys_map r]; rfl
theorem toPy_sum (s : Sm) : toPy (dSm s) = dS s := by
  have key : ∀ ns : List Int, toPys (ns.map D.int) = dI ns := by
    intro ns
    induction ns with
    | nil => rfl
    | cons n r ih =>
      rw [List.map_cons, toPys, ih]
      rfl
  simp [dSm, toPy, toPys, key, dS]
theorem numInv {d : D} {lo hi : Int} (h : fromTo d lo hi = true) : ∃ i, d = .int i ∧ lo ≤ i ∧ i ≤ hi := by
  unfold fromTo at h
  split at h
  · simp only [Bool.and_eq_true, decide_eq_true_eq] at h
    exact ⟨_, rfl, h.1, h.2⟩
  · cases h
theorem sumInv {many : Nat} {d : D} (h : sumOk many d = true) : ∃ sm, d = dSm sm ∧ SumW many sm := by
  unfold sumOk at h
  split at h
  · rename_i ns l
    simp only [Bool.and_eq_true, decide_eq_true_eq, List.all_eq_true] at h
    obtain ⟨⟨h1, h2⟩, h3⟩ := h
    obtain ⟨i, rfl, l1, l2⟩ := numInv h3
    have key : ∀ ns : List D, (∀ x ∈ ns, fromTo x (-9) 9 = true) → ∃ ks : List Int, ns = ks.map D.int ∧ ∀ k ∈ ks, -9 ≤ k ∧ k ≤ 9 := by
      intro ns
      induction ns with
      | nil => exact fun _ => ⟨[], rfl, fun k hk => by cases hk⟩
      | cons x t ih =>
        intro hx
        obtain ⟨k, rfl, k1, k2⟩ := numInv (hx x List.mem_cons_self)
        obtain ⟨ks, rfl, hks⟩ := ih fun y hy => hx y (List.mem_cons_of_mem _ hy)
        refine ⟨k :: ks, rfl, fun z hz => ?_⟩
        rcases List.mem_cons.mp hz with rfl | hz
        · exact ⟨k1, k2⟩
        · exact hks z hz
    obtain ⟨ks, rfl, hks⟩ := key ns h2
    exact ⟨(ks, i), rfl, by simpa using h1, hks, l1, l2⟩
  · cases h
theorem lyStr {s : Str} (h : (PyData.str s).canLay0 = true) : Ly 1 (.str s) := ⟨h, by simp [PyData.depth]⟩
theorem lyKinds : (PyData.str "put").canLay0 = true ∧ (PyData.str "say").canLay0 = true ∧ (PyData.str "if").canLay0 = true ∧ (PyData.str "loop").canLay0 = true := by decide +kernel
theorem lyAll {n : Nat} : ∀ {ds : List PyData}, (∀ d ∈ ds, Ly n d) → LyA n ds
  | [], _ => lyNil n
  | d :: r, h => lyCons (h d List.mem_cons_self) (lyAll fun x hx => h x (List.mem_cons_of_mem _ hx))
theorem rowKinds' {many : Nat} {d : D} (h : rowOk many d = true) : (∃ (i : Int) (s : Sm), d = .tup [.str "put", .int i, dSm s] ∧ 0 ≤ i ∧ i ≤ (many : Int) - 1 ∧ SumW many s) ∨ (∃ s : Sm, d = .tup [.str "say", dSm s] ∧ SumW many s) ∨
    (∃ (s : Sm) (a b : D), d = .tup [.str "if", dSm s, a, b] ∧ SumW many s) ∨ ∃ (s : Sm) (wl : List Sm) (b : D), d = .tup [.str "loop", dSm s, .tup (wl.map dSm), b] ∧ SumW many s ∧ (∀ w ∈ wl, SumW many w) ∧ wl.length ≤ 3 := by
  have kd : ("put" : Str) ≠ "if" ∧ ("put" : Str) ≠ "loop" ∧ ("say" : Str) ≠ "if" ∧ ("say" : Str) ≠ "loop" ∧ ("loop" : Str) ≠ "if" ∧ ("if" : Str) ≠ "loop" ∧ ("say" : Str) ≠ "put" ∧ ("if" : Str) ≠ "put" ∧ ("loop" : Str) ≠ "put" ∧ ("if" : Str) ≠ "say" ∧ ("loop" : Str) ≠ "say" := by decide +kernel
  rcases rowKinds h with ⟨b, s, rfl⟩ | ⟨w, rfl⟩ | ⟨w, a, b, rfl⟩ | ⟨w, ws, b, rfl⟩
  · simp only [rowOk, restOk, if_true, Bool.and_eq_true] at h
    obtain ⟨i, rfl, i0, i1⟩ := numInv h.1
    obtain ⟨sm, rfl, hw⟩ := sumInv h.2
    exact .inl ⟨i, sm, rfl, i0, i1, hw⟩
  · have h : sumOk many w = true := by simpa [rowOk, restOk, kd] using h
    obtain ⟨sm, rfl, hw⟩ := sumInv h
    exact .inr (.inl ⟨sm, rfl, hw⟩)
  · have h : sumOk many w = true := by simpa [rowOk, restOk, kd] using h
    obtain ⟨sm, rfl, hw⟩ := sumInv h
    exact .inr (.inr (.inl ⟨sm, a, b, rfl, hw⟩))
  · have h : sumOk many w = true ∧ wordsOk many ws = true := by simpa [rowOk, restOk, kd] using h
    obtain ⟨sm, rfl, hw⟩ := sumInv h.1
    have h2 := h.2
    cases ws with
    | tup l =>
      unfold wordsOk at h2
      simp only [Bool.and_eq_true, decide_eq_true_eq, List.all_eq_true] at h2
      have key : ∀ l : List D, (∀ x ∈ l, sumOk many x = true) → ∃ wl : List Sm, l = wl.map dSm ∧ ∀ w ∈ wl, SumW many w := by
        intro l
        induction l with
        | nil => exact fun _ => ⟨[], rfl, fun k hk => by cases hk⟩
        | cons x t ih =>
          intro hx
          obtain ⟨k, rfl, k1⟩ := sumInv (hx x List.mem_cons_self)
          obtain ⟨ks, rfl, hks⟩ := ih fun y hy => hx y (List.mem_cons_of_mem _ hy)
          refine ⟨k :: ks, rfl, fun z hz => ?_⟩
          rcases List.mem_cons.mp hz with rfl | hz
          · exact k1
          · exact hks z hz
      obtain ⟨wl, rfl, hwl⟩ := key l h2.2
      exact .inr (.inr (.inr ⟨sm, wl, b, rfl, hw, hwl, by simpa using h2.1⟩))
    | _ => cases h2
theorem lySum' (s : Sm) : Ly 3 (toPy (dSm s)) := by rw [toPy_sum]; exact lySum s
theorem lyRow {many : Nat} : ∀ (r : Nat) {d : D}, GRow many r d → Ly (5 + 2 * r) (toPy d) := by
  intro r
  induction r with
  | zero =>
    intro d g
    rcases gKinds g with ⟨b, s, e⟩ | ⟨w, e⟩ | ⟨r', w, a, b, e, _⟩ | ⟨r', w, ws, b, e, _⟩
    · rcases rowKinds' g.1 with ⟨i, sm, rfl, _⟩ | ⟨sm, rfl, _⟩ | ⟨sm, a, b, rfl, _⟩ | ⟨sm, wl, b, rfl, _⟩
      · simp only [toPy, toPys]
        exact (lyTup (lyCons ((lyStr lyKinds.1).up (by omega)) (lyCons ((lyInt i).up (by omega)) (lyCons (lySum' sm) (lyNil _))))).up (by omega)
      · cases e
      · cases e
      · cases e
    · rcases rowKinds' g.1 with ⟨i, sm, rfl, _⟩ | ⟨sm, rfl, _⟩ | ⟨sm, a, b, rfl, _⟩ | ⟨sm, wl, b, rfl, _⟩
      · cases e
      · simp only [toPy, toPys]
        exact (lyTup (lyCons ((lyStr lyKinds.2.1).up (by omega)) (lyCons (lySum' sm) (lyNil _)))).up (by omega)
      · cases e
      · cases e
    · cases e
    · cases e
  | succ r ih =>
    intro d g
    have rowsLy : ∀ rs : List D, (∀ x ∈ rs, GRow many r x) → Ly (6 + 2 * r) (toPy (.tup rs)) := fun rs h => by
      simp only [toPy]
      refine (lyTup (n := 5 + 2 * r) (lyAll fun y hy => ?_)).up (by omega)
      rw [toPys_map] at hy
      obtain ⟨x, hx, rfl⟩ := List.mem_map.mp hy
      exact ih (h x hx)
    rcases gKinds g with ⟨b, s, e⟩ | ⟨w, e⟩ | ⟨r', w, a, b, e, e2, ga, gb⟩ | ⟨r', w, ws, b, e, e2, gb⟩
    · rcases rowKinds' g.1 with ⟨i, sm, rfl, _⟩ | ⟨sm, rfl, _⟩ | ⟨sm, a, b, rfl, _⟩ | ⟨sm, wl, b, rfl, _⟩
      · simp only [toPy, toPys]
        exact (lyTup (lyCons ((lyStr lyKinds.1).up (by omega)) (lyCons ((lyInt i).up (by omega)) (lyCons (lySum' sm) (lyNil _))))).up (by omega)
      · cases e
      · cases e
      · cases e
    · rcases rowKinds' g.1 with ⟨i, sm, rfl, _⟩ | ⟨sm, rfl, _⟩ | ⟨sm, a, b, rfl, _⟩ | ⟨sm, wl, b, rfl, _⟩
      · cases e
      · simp only [toPy, toPys]
        exact (lyTup (lyCons ((lyStr lyKinds.2.1).up (by omega)) (lyCons (lySum' sm) (lyNil _)))).up (by omega)
      · cases e
      · cases e
    · have : r' = r := by omega
      subst this
      subst e2
      rcases rowKinds' g.1 with ⟨i, sm, e3, _⟩ | ⟨sm, e3, _⟩ | ⟨sm, a2, b2, e3, _⟩ | ⟨sm, wl, b2, e3, _⟩
      · cases e3
      · cases e3
      · cases e3
        rw [toPy, toPys, toPys, toPys, toPys, toPys]
        exact (lyTup (n := 6 + 2 * r') (lyCons ((lyStr lyKinds.2.2.1).up (by omega)) (lyCons ((lySum' sm).up (by omega)) (lyCons (rowsLy a ga) (lyCons (rowsLy b gb) (lyNil _)))))).up (by omega)
      · injection e3 with e3
        injection e3 with e3 _
        injection e3 with e3
        exact absurd e3 kinds.2.2.2.2.2.1
    · have : r' = r := by omega
      subst this
      subst e2
      rcases rowKinds' g.1 with ⟨i, sm, e3, _⟩ | ⟨sm, e3, _⟩ | ⟨sm, a2, b2, e3, _⟩ | ⟨sm, wl, b2, e3, _⟩
      · cases e3
      · cases e3
      · injection e3 with e3
        injection e3 with e3 _
        injection e3 with e3
        exact absurd e3 kinds.2.2.2.2.1
      · cases e3
        rw [toPy, toPys, toPys, toPys, toPys, toPys]
        have wly : Ly 4 (toPy (.tup (wl.map dSm))) := by
          rw [toPy]
          refine lyTup (lyAll fun y hy => ?_)
          rw [toPys_map] at hy
          obtain ⟨x, hx, rfl⟩ := List.mem_map.mp hy
          obtain ⟨s, _, rfl⟩ := List.mem_map.mp hx
          exact lySum' s
        exact (lyTup (n := 6 + 2 * r') (lyCons ((lyStr lyKinds.2.2.2).up (by omega)) (lyCons ((lySum' sm).up (by omega)) (lyCons (wly.up (by omega)) (lyCons (rowsLy b gb) (lyNil _)))))).up (by omega)
theorem lyRows {many r : Nat} {rs : List D} (h : ∀ x ∈ rs, GRow many r x) : Ly (6 + 2 * r) (toPy (.tup rs)) := by
  rw [toPy]
  refine (lyTup (n := 5 + 2 * r) (lyAll fun y hy => ?_)).up (by omega)
  rw [toPys_map] at hy
  obtain ⟨x, hx, rfl⟩ := List.mem_map.mp hy
  exact lyRow r (h x hx)
def dPl (p : List Nat) : PyData := .tuple (p.map fun (n : Nat) => PyData.int (n : Int))
theorem dpNats {K : PySem.W.Frag} {H : Hp} : ∀ p : List Nat, DpAll K H (nats p) (p.map fun (n : Nat) => PyData.int (n : Int))
  | [] => .nil
  | n :: r => .cons (.int n) (dpNats r)
theorem lyPl (p : List Nat) : Ly 2 (dPl p) := lyTup (lyAll fun d hd => by
  obtain ⟨n, _, rfl⟩ := List.mem_map.mp hd
  exact lyInt n)
def dPd (p : Pd) : PyData := .tuple [dPl p.1, toPy p.2]
theorem dpPd {K : PySem.W.Frag} {H : Hp} {v : V} {p : Pd} (hp : p.2.pure = true) (h : PlIn K H v p) : Dp K H v (dPd p) := by
  obtain ⟨t, pa, rv, rfl, h1, h2, h3⟩ := h
  exact .tup h1 (.cons (.tup h2 (dpNats _)) (.cons (dpD hp h3) .nil))
theorem dpPds {K : PySem.W.Frag} {H : Hp} : ∀ {vs : List V} {ps : List Pd}, (∀ p ∈ ps, p.2.pure = true) → PlL K H vs ps → DpAll K H vs (ps.map dPd)
  | _, _, _, .nil => .nil
  | _, _, hp, .cons r t => .cons (dpPd (hp _ List.mem_cons_self) r) (dpPds (fun p hm => hp p (List.mem_cons_of_mem _ hm)) t)
theorem GRow.up {many : Nat} : ∀ {r r' : Nat} {d : D}, GRow many r d → r ≤ r' → GRow many r' d := by
  have gup : ∀ (r : Nat) (d : D), good many r d = true → good many (r + 1) d = true := by
    intro r
    induction r with
    | zero => intro d h; simp [good] at h
    | succ r ih =>
      intro d h
      cases d with
      | tup rows =>
        rw [good, List.all_eq_true] at h ⊢
        intro x hx
        have := h x hx
        rw [Bool.and_eq_true] at this ⊢
        refine ⟨this.1, ?_⟩
        rw [List.all_eq_true]
        intro y hy
        exact ih y (List.all_eq_true.mp this.2 y hy)
      | _ => simp [good] at h
  intro r r' d h l
  obtain ⟨k, rfl⟩ : ∃ k, r' = r + k := ⟨r' - r, by omega⟩
  clear l
  induction k with
  | zero => exact h
  | succ k ih =>
    refine ⟨ih.1, ih.2.1, ?_⟩
    rw [List.all_eq_true]
    exact fun y hy => gup _ y (List.all_eq_true.mp ih.2.2 y hy)
theorem plGood {many m : Nat} : ∀ (r : Nat) (rows : List D) (ahead : List Nat), (∀ d ∈ rows, GRow many m d) → ∀ p ∈ plD r rows ahead, GRow many m p.2
  | 0, _, _, _, p, h => by cases h
  | r + 1, rows, ahead, h, p, hp => by
    rw [plD, List.mem_flatMap] at hp
    obtain ⟨⟨d, i⟩, hm, hp⟩ := hp
    have hd : d ∈ rows := by
      have := List.mem_zipIdx hm
      simp at this
      rw [this.2]
      exact List.getElem_mem _
    have g := h d hd
    rcases List.mem_cons.mp hp with e | hp
    · subst e
      exact g
    · rw [List.mem_flatMap] at hp
      obtain ⟨⟨x, j⟩, hx, hp⟩ := hp
      have hxi : x ∈ inner d := by
        have := List.mem_zipIdx hx
        simp at this
        rw [this.2]
        exact List.getElem_mem _
      refine plGood r (rowsOf x) _ (fun y hy => ?_) p hp
      rcases gKinds g with ⟨b, s, rfl⟩ | ⟨w, rfl⟩ | ⟨r2, w, a, b, e, rfl, ga, gb⟩ | ⟨r2, w, ws, b, e, rfl, gb⟩
      · rw [in_put] at hxi; cases hxi
      · rw [in_say] at hxi; cases hxi
      · rw [in_if] at hxi
        rcases List.mem_cons.mp hxi with e2 | e2
        · subst e2; exact (ga y hy).up (by omega)
        · rw [List.mem_singleton.mp e2] at hy; exact (gb y hy).up (by omega)
      · rw [in_loop] at hxi
        rw [List.mem_singleton.mp hxi] at hy
        exact (gb y hy).up (by omega)
theorem lyPd {many : Nat} {p : Pd} (h : GRow many 3 p.2) : Ly 12 (dPd p) := (lyTup (n := 11) (lyCons ((lyPl p.1).up (by decide)) (lyCons ((lyRow 3 h).up (by decide)) (lyNil _)))).up (by decide)
theorem lyPds {many : Nat} {ps : List Pd} (h : ∀ p ∈ ps, GRow many 3 p.2) : Ly 13 (.list (ps.map dPd)) := lyLst (lyAll fun d hd => by
  obtain ⟨p, hp, rfl⟩ := List.mem_map.mp hd
  exact lyPd (h p hp))
end LW

/-! stretches, trees, fillings in a stretch -/
namespace LW
open PySem PySem.Spec PyProof.Rows L2
abbrev Iv := Int × Int
/-- a pair of two numbers in the heap; a list of such -/
def PrI (K : PySem.W.Frag) (H : Hp) (v : V) (p : Iv) : Prop := ∃ t, v = .ref t ∧ SqT K H t [.int p.1, .int p.2]
def StrIn (K : PySem.W.Frag) (H : Hp) (a : Addr) (st : List Iv) : Prop := ∃ vs, SqL K H a vs ∧ A2 (PrI K H) vs st
theorem priTS {K : PySem.W.Frag} {H H' : Hp} {vs : List V} {st : List Iv} (e : TS H H') (h : A2 (PrI K H) vs st) : A2 (PrI K H') vs st :=
  A2.map (B' := st) (fun _ _ _ ⟨t, e0, h1⟩ => ⟨t, e0, tsTup e h1⟩) (fun _ m => m) h
theorem StrIn.same {K : PySem.W.Frag} {H H' : Hp} {a : Addr} {st : List Iv} (e : Same H H') (h : StrIn K H a st) : StrIn K H' a st := by
  obtain ⟨vs, h1, h2⟩ := h
  exact ⟨vs, Same.seq e h1, priTS (tsOf e) h2⟩
/-- the least that a sum may be in a stretch, without its last number -/
def low : List Int → List Iv → Int
  | n :: ns, p :: ps => min (n * p.1) (n * p.2) + low ns ps
  | _, _ => 0
def least (s : Sm) (st : List Iv) : Int := s.2 + low s.1 st
theorem low_take : ∀ {a : List Int} {b : List Iv} {i : Nat} {x : Int} {y : Iv}, a[i]? = some x → b[i]? = some y → low (a.take (i + 1)) (b.take (i + 1)) = low (a.take i) (b.take i) + min (x * y.1) (x * y.2)
  | [], _, _, _, _, h, _ => by simp at h
  | _ :: _, [], _, _, _, _, h => by simp at h
  | n :: ns, p :: ps, 0, x, y, h, h' => by
    simp at h h'
    subst h h'
    simp [low]
  | n :: ns, p :: ps, i + 1, x, y, h, h' => by
    have ih := low_take (a := ns) (b := ps) (i := i) (x := x) (y := y) (by simpa using h) (by simpa using h')
    simp only [List.take_succ_cons, low]
    rw [ih]
    omega
theorem minTwo {a b m : Int} (h : m ∈ [a, b]) (h2 : ∀ y, y ∈ [a, b] → m ≤ y) : m = min a b := by
  have h3 := h2 a (by simp)
  have h4 := h2 b (by simp)
  rcases List.mem_cons.mp h with e | e
  · omega
  · have := List.mem_singleton.mp e
    omega
def holds (ss : List Sm) (fs : List Int) : Bool := ss.all fun s => decide (val s fs ≤ 0)
theorem holds_take {ss : List Sm} {fs : List Int} {i : Nat} {s : Sm} (e : ss[i]? = some s) : holds (ss.take (i + 1)) fs = (holds (ss.take i) fs && decide (val s fs ≤ 0)) := by
  obtain ⟨hi, e1⟩ := List.getElem?_eq_some_iff.mp e
  subst e1
  rw [holds, List.take_succ_eq_append_getElem hi, List.all_append]
  simp [holds]
section
variable {α β : Type} {R : α → β → Prop}
theorem A2.take : ∀ {a : List α} {b : List β} (n : Nat), A2 R a b → A2 R (a.take n) (b.take n)
  | _, _, 0, _ => by simpa using A2.nil
  | _, _, _ + 1, .nil => by simpa using A2.nil
  | _, _, n + 1, .cons h t => by simpa using A2.cons h (A2.take n t)
theorem A2.drop : ∀ {a : List α} {b : List β} (n : Nat), A2 R a b → A2 R (a.drop n) (b.drop n)
  | _, _, 0, h => by simpa using h
  | _, _, _ + 1, .nil => by simpa using A2.nil
  | _, _, n + 1, .cons _ t => by simpa using A2.drop n t
end
/-- a tree, well or not -/
inductive Tr where
  | sum (n : Int) | cut (n c : Int) (a b : Tr)
def Tr.deep : Tr → Nat
  | .sum _ => 1
  | .cut _ _ a b => max a.deep b.deep + 1
inductive TrIn (K : PySem.W.Frag) (H : Hp) : V → Tr → Prop
  | sum {a : Addr} {n : Int} (h : SqT K H a [.str "sum", .int n]) : TrIn K H (.ref a) (.sum n)
  | cut {a : Addr} {n c : Int} {v w : V} {s t : Tr} (h : SqT K H a [.str "cut", .int n, .int c, v, w]) (h1 : TrIn K H v s) (h2 : TrIn K H w t) : TrIn K H (.ref a) (.cut n c s t)
theorem trTS {K : PySem.W.Frag} {H H' : Hp} (e : TS H H') : ∀ {v : V} {t : Tr}, TrIn K H v t → TrIn K H' v t
  | _, _, .sum h => .sum (tsTup e h)
  | _, _, .cut h a b => .cut (tsTup e h) (trTS e a) (trTS e b)
def below (st : List Iv) (j : Nat) (p : Iv) (c : Int) : List Iv := st.take j ++ [(p.1, c)] ++ st.drop (j + 1)
def above (st : List Iv) (j : Nat) (p : Iv) (c : Int) : List Iv := st.take j ++ [(c + 1, p.2)] ++ st.drop (j + 1)
def isT (ss : List Sm) : List Iv → Tr → Bool
  | st, .sum n => decide (0 ≤ n) && match ss[n.toNat]? with
    | some s => decide (0 < least s st)
    | none => false
  | st, .cut n c a b => decide (0 ≤ n) && match st[n.toNat]? with
    | some p => decide (p.1 ≤ c) && decide (c < p.2) && isT ss (below st n.toNat p c) a && isT ss (above st n.toNat p c) b
    | none => false
theorem cutK : ("cut" : Str) ≠ "sum" := by decide +kernel
/-- a filling in the heap, a list of one's own -/
def FIn (K : PySem.W.Frag) (H : Hp) (v : V) (fs : List Int) : Prop := ∃ a, v = .ref a ∧ H a = some (.lst (fs.map V.int))
theorem finSame {K : PySem.W.Frag} {H H' : Hp} {vs : List V} {ff : List (List Int)} (e : Same H H') (h : A2 (FIn K H) vs ff) : A2 (FIn K H') vs ff :=
  A2.map (B' := ff) (fun _ _ _ ⟨a, e0, h1⟩ => ⟨a, e0, e _ _ h1⟩) (fun _ m => m) h
def FInN (D : Addr) (H : Hp) (v : V) (fs : List Int) : Prop := ∃ a, v = .ref a ∧ a ≠ D ∧ H a = some (.lst (fs.map V.int))
theorem finN {K : PySem.W.Frag} {D : Addr} {H : Hp} {vs : List V} {ff : List (List Int)} (h : A2 (FInN D H) vs ff) : A2 (FIn K H) vs ff :=
  A2.map (B' := ff) (fun _ _ _ ⟨a, e0, _, h1⟩ => ⟨a, e0, h1⟩) (fun _ m => m) h
theorem finNSame {D : Addr} {H H' : Hp} {vs : List V} {ff : List (List Int)} (e : Same H H') (h : A2 (FInN D H) vs ff) : A2 (FInN D H') vs ff :=
  A2.map (B' := ff) (fun _ _ _ ⟨a, e0, n, h1⟩ => ⟨a, e0, n, e _ _ h1⟩) (fun _ m => m) h
theorem finNMut {D : Addr} {H : Hp} {o : HO} {vs : List V} {ff : List (List Int)} (h : A2 (FInN D H) vs ff) : A2 (FInN D (upd H D o)) vs ff :=
  A2.map (B' := ff) (fun _ _ _ ⟨a, e0, n, h1⟩ => ⟨a, e0, n, by rw [upd_ne n]; exact h1⟩) (fun _ m => m) h
def many (p : Iv) : Nat := (p.2 + 1 - p.1).toNat
def exts (f : List Int) (p : Iv) (n : Nat) : List (List Int) := (List.range n).map fun (k : Nat) => f ++ [p.1 + (k : Int)]
def ext (ff : List (List Int)) (p : Iv) : List (List Int) := ff.flatMap fun f => exts f p (many p)
def allIn (st : List Iv) : List (List Int) := st.foldl ext [[]]
theorem ext_len {ff : List (List Int)} {p : Iv} : (ext ff p).length = ff.length * many p := by
  induction ff with
  | nil => simp [ext]
  | cons f r ih =>
    simp only [ext, List.flatMap_cons, List.length_append] at ih ⊢
    rw [ih]
    simp [exts, Nat.succ_mul, Nat.add_comm]
theorem allIn_take {st : List Iv} {i : Nat} {p : Iv} (e : st[i]? = some p) : allIn (st.take (i + 1)) = ext (allIn (st.take i)) p := by
  obtain ⟨hi, e1⟩ := List.getElem?_eq_some_iff.mp e
  subst e1
  rw [allIn, List.take_succ_eq_append_getElem hi, List.foldl_append]
  rfl
theorem allIn_len {st : List Iv} (h : ∀ p ∈ st, many p ≤ 10) : ∀ i, (allIn (st.take i)).length ≤ 10 ^ i
  | 0 => by simp [allIn]
  | i + 1 => by
    cases e : st[i]? with
    | none =>
      have : st.take (i + 1) = st.take i := by
        have hl : st.length ≤ i := by simpa using e
        rw [List.take_of_length_le (by omega), List.take_of_length_le hl]
      rw [this]
      have := allIn_len h i
      rw [Nat.pow_succ]
      omega
    | some p =>
      rw [allIn_take e, ext_len, Nat.pow_succ]
      exact Nat.mul_le_mul (allIn_len h i) (h p (List.mem_of_getElem? e))
theorem ext_take {ff : List (List Int)} {p : Iv} {j : Nat} {f : List Int} (e : ff[j]? = some f) : ext (ff.take (j + 1)) p = ext (ff.take j) p ++ exts f p (many p) := by
  obtain ⟨hi, e1⟩ := List.getElem?_eq_some_iff.mp e
  subst e1
  rw [ext, List.take_succ_eq_append_getElem hi, List.flatMap_append]
  simp [ext]
theorem allIn_deep {st : List Iv} : ∀ i, ∀ f ∈ allIn (st.take i), f.length ≤ i
  | 0, f, m => by
    simp [allIn] at m
    simp [m]
  | i + 1, f, m => by
    cases e : st[i]? with
    | none =>
      have : st.take (i + 1) = st.take i := by
        have hl : st.length ≤ i := by simpa using e
        rw [List.take_of_length_le (by omega), List.take_of_length_le hl]
      rw [this] at m
      exact Nat.le_succ_of_le (allIn_deep i f m)
    | some p =>
      rw [allIn_take e, ext, List.mem_flatMap] at m
      obtain ⟨g, mg, m⟩ := m
      obtain ⟨k, _, rfl⟩ := List.mem_map.mp m
      have := allIn_deep i g mg
      simp
      omega
/-- a filling lies in a stretch -/
def InS : List Iv → List Int → Prop
  | [], [] => True
  | p :: ps, f :: fs => p.1 ≤ f ∧ f ≤ p.2 ∧ InS ps fs
  | _, _ => False
theorem mul_low {n f : Int} {p : Iv} (h1 : p.1 ≤ f) (h2 : f ≤ p.2) : min (n * p.1) (n * p.2) ≤ n * f := by
  by_cases h : 0 ≤ n
  · have := Int.mul_le_mul_of_nonneg_left h1 h
    omega
  · have := Int.mul_le_mul_of_nonpos_left (a := n) (by omega) h2
    omega
theorem low_le : ∀ {a : List Int} {st : List Iv} {fs : List Int}, InS st fs → low a st ≤ dot a fs ∨ a.length ≠ st.length
  | [], [], [], _ => .inl (by simp [low, dot])
  | [], _ :: _, _, _ => .inr (by simp)
  | _ :: _, [], _, _ => .inr (by simp)
  | n :: ns, p :: ps, f :: fs, h => by
    have hm := mul_low (n := n) h.1 h.2.1
    rcases low_le (a := ns) h.2.2 with h3 | h3
    · refine .inl ?_
      simp only [low, dot]
      omega
    · exact .inr (by simpa using h3)
  | [], [], _ :: _, h => h.elim
  | _ :: _, _ :: _, [], h => h.elim
theorem least_le {s : Sm} {st : List Iv} {fs : List Int} (h : InS st fs) (hl : s.1.length = st.length) : least s st ≤ val s fs := by
  rcases low_le (a := s.1) h with h | h
  · unfold least val
    omega
  · exact absurd hl h
theorem ins_at : ∀ {st : List Iv} {fs : List Int} {j : Nat} {p : Iv}, InS st fs → st[j]? = some p → ∃ f, fs[j]? = some f ∧ p.1 ≤ f ∧ f ≤ p.2
  | [], _, _, _, _, e => by simp at e
  | p :: ps, f :: fs, 0, _, h, e => by
    simp at e
    subst e
    exact ⟨f, rfl, h.1, h.2.1⟩
  | p :: ps, f :: fs, j + 1, _, h, e => by
    obtain ⟨g, e1, e2⟩ := ins_at (j := j) h.2.2 (by simpa using e)
    exact ⟨g, by simpa using e1, e2⟩
  | _ :: _, [], _, _, h, _ => h.elim
theorem ins_set : ∀ {st : List Iv} {fs : List Int} {j : Nat} {f : Int} {r : Iv}, InS st fs → fs[j]? = some f → r.1 ≤ f → f ≤ r.2 → j < st.length → InS (st.take j ++ [r] ++ st.drop (j + 1)) fs
  | [], _, _, _, _, _, _, _, _, l => by simp at l
  | p :: ps, g :: fs, 0, f, r, h, e, h1, h2, _ => by
    simp at e
    subst e
    exact ⟨h1, h2, by simpa using h.2.2⟩
  | p :: ps, g :: fs, j + 1, f, r, h, e, h1, h2, l => by
    have := ins_set (j := j) (f := f) (r := r) h.2.2 (by simpa using e) h1 h2 (by simpa using l)
    exact ⟨h.1, h.2.1, by simpa using this⟩
  | _ :: _, [], _, _, _, h, _, _, _, _ => h.elim
/-- where a tree tells it, nothing in the stretch has all hold -/
theorem isT_sound {ss : List Sm} : ∀ (t : Tr) {st : List Iv} {fs : List Int}, isT ss st t = true → (∀ s ∈ ss, s.1.length = st.length) → InS st fs → holds ss fs = false
  | .sum n, st, fs, h, hw, hi => by
    rw [isT, Bool.and_eq_true] at h
    cases e : ss[n.toNat]? with
    | none => rw [e] at h; cases h.2
    | some s =>
      rw [e] at h
      have h2 := of_decide_eq_true h.2
      have ms := List.mem_of_getElem? e
      have := least_le hi (hw s ms)
      refine Bool.eq_false_iff.mpr fun z => ?_
      rw [holds, List.all_eq_true] at z
      have := of_decide_eq_true (z s ms)
      omega
  | .cut n c a b, st, fs, h, hw, hi => by
    rw [isT, Bool.and_eq_true] at h
    cases e : st[n.toNat]? with
    | none => rw [e] at h; cases h.2
    | some p =>
      rw [e] at h
      simp only [Bool.and_eq_true, decide_eq_true_eq] at h
      obtain ⟨_, ⟨⟨h1, h2⟩, h3⟩, h4⟩ := h
      have hj := (List.getElem?_eq_some_iff.mp e).1
      obtain ⟨f, ef, f1, f2⟩ := ins_at hi e
      by_cases hc : f ≤ c
      · refine isT_sound a h3 (fun s hs => (hw s hs).trans ?_) (ins_set hi ef f1 hc hj)
        simp [below]
        omega
      · refine isT_sound b h4 (fun s hs => (hw s hs).trans ?_) (ins_set hi ef (show c + 1 ≤ f by omega) f2 hj)
        simp [above]
        omega
theorem ins_snoc : ∀ {st : List Iv} {fs : List Int} {p : Iv} {x : Int}, InS st fs → p.1 ≤ x → x ≤ p.2 → InS (st ++ [p]) (fs ++ [x])
  | [], [], _, _, _, h1, h2 => ⟨h1, h2, trivial⟩
  | _ :: _, _ :: _, _, _, h, h1, h2 => ⟨h.1, h.2.1, ins_snoc h.2.2 h1 h2⟩
  | [], _ :: _, _, _, h, _, _ => h.elim
  | _ :: _, [], _, _, h, _, _ => h.elim
theorem allIn_in {st : List Iv} : ∀ i, i ≤ st.length → ∀ fs ∈ allIn (st.take i), InS (st.take i) fs
  | 0, _, fs, m => by
    simp [allIn] at m
    subst m
    trivial
  | i + 1, l, fs, m => by
    have e : st[i]? = some st[i] := List.getElem?_eq_getElem (by omega)
    rw [allIn_take e, ext, List.mem_flatMap] at m
    obtain ⟨g, mg, m⟩ := m
    obtain ⟨k, hk, rfl⟩ := List.mem_map.mp m
    have hk2 := List.mem_range.mp hk
    unfold many at hk2
    rw [List.take_succ_eq_append_getElem (by omega)]
    exact ins_snoc (allIn_in i (by omega) g mg) (by omega) (by omega)
/-- a tree: none of all fillings has all hold -/
theorem tree_none {ss : List Sm} {st : List Iv} {t : Tr} (h : isT ss st t = true) (hw : ∀ s ∈ ss, s.1.length = st.length) : ∀ fs ∈ allIn st, holds ss fs = false := fun fs m =>
  isT_sound t h hw (by
    have := allIn_in (st := st) st.length (Nat.le_refl _) fs
    rw [List.take_length] at this
    exact this m)
def size (st : List Iv) : Nat := (st.map fun p => (p.2 - p.1).toNat).sum
theorem size_cut : ∀ {st : List Iv} {j : Nat} {p r : Iv}, st[j]? = some p → (r.2 - r.1).toNat < (p.2 - p.1).toNat → size (st.take j ++ [r] ++ st.drop (j + 1)) < size st
  | [], _, _, _, e, _ => by simp at e
  | q :: st, 0, p, r, e, h => by
    simp at e
    subst e
    simp [size]
    omega
  | q :: st, j + 1, p, r, e, h => by
    have := size_cut (st := st) (j := j) (p := p) (r := r) (by simpa using e) h
    simp only [size, List.take_succ_cons, List.cons_append, List.drop_succ_cons, List.map_cons, List.sum_cons] at this ⊢
    omega
/-- a tree that is well is no deeper than its stretch lets it be -/
theorem deep_le {ss : List Sm} : ∀ (t : Tr) {st : List Iv}, isT ss st t = true → t.deep ≤ size st + 1
  | .sum n, st, _ => by simp [Tr.deep]
  | .cut n c a b, st, h => by
    rw [isT, Bool.and_eq_true] at h
    cases e : st[n.toNat]? with
    | none => rw [e] at h; cases h.2
    | some p =>
      rw [e] at h
      simp only [Bool.and_eq_true, decide_eq_true_eq] at h
      obtain ⟨_, ⟨⟨h1, h2⟩, h3⟩, h4⟩ := h
      have d1 := deep_le a h3
      have d2 := deep_le b h4
      have z1 := size_cut (r := (p.1, c)) e (by dsimp only; omega)
      have z2 := size_cut (r := (c + 1, p.2)) e (by dsimp only; omega)
      simp only [Tr.deep]
      unfold below at d1
      unfold above at d2
      omega
end LW

namespace LW
open PySem PySem.Spec PyProof.Rows L2
theorem kTn {X : Cx} {K : PySem.W.Frag} {es : List Expr} {k : Nat} {t : TGs} {n : Nat} {pos : Pos} (h : X.K = K) (hc : X.calm = true) (h1 : PGs X es t)
    (hn : (assignEach es X.env).length = n := by rfl) (hst : (assignEach es X.env).findIdx? (·.1) = none := by rfl) : PG X (.Tuple es k pos) (gTup K n t) := by
  subst h
  exact pg_tup hc h1 hn hst
/-- a list stays where another object changes -/
theorem seqNe {K : PySem.W.Frag} {H : Hp} {a p : Addr} {o : HO} {xs : List V} (h : SqL K H a xs) (ne : a ≠ p) : SqL K (upd H p o) a xs := by
  rcases h with (h | ⟨o', h⟩) | h
  · exact .inl (.inl (by show upd H p o a = _; rw [upd_ne ne]; exact h))
  · exact .inl (.inr ⟨o', by show upd H p o a = _; rw [upd_ne ne]; exact h⟩)
  · exact .inr h
/-- the least and the greatest, as the signs of the numbers say -/
def lowP : List Int → List Iv → Int
  | n :: ns, p :: ps => (if 0 < n then n * p.1 else n * p.2) + lowP ns ps
  | _, _ => 0
def highP : List Int → List Iv → Int
  | n :: ns, p :: ps => (if 0 < n then n * p.2 else n * p.1) + highP ns ps
  | _, _ => 0
def leastP (s : Sm) (st : List Iv) : Int := s.2 + lowP s.1 st
def mostP (s : Sm) (st : List Iv) : Int := s.2 + highP s.1 st
theorem lowP_take : ∀ {a : List Int} {b : List Iv} {i : Nat} {x : Int} {y : Iv}, a[i]? = some x → b[i]? = some y →
    lowP (a.take (i + 1)) (b.take (i + 1)) = lowP (a.take i) (b.take i) + (if 0 < x then x * y.1 else x * y.2) ∧ highP (a.take (i + 1)) (b.take (i + 1)) = highP (a.take i) (b.take i) + (if 0 < x then x * y.2 else x * y.1)
  | [], _, _, _, _, h, _ => by simp at h
  | _ :: _, [], _, _, _, _, h => by simp at h
  | n :: ns, p :: ps, 0, x, y, h, h' => by
    simp at h h'
    subst h h'
    simp [lowP, highP]
  | n :: ns, p :: ps, i + 1, x, y, h, h' => by
    have ih := lowP_take (a := ns) (b := ps) (i := i) (x := x) (y := y) (by simpa using h) (by simpa using h')
    simp only [List.take_succ_cons, lowP, highP]
    rw [ih.1, ih.2]
    constructor <;> omega
theorem lowP_low : ∀ {a : List Int} {b : List Iv}, (∀ p ∈ b, p.1 ≤ p.2) → lowP a b = low a b
  | [], _, _ => by simp [lowP, low]
  | _ :: _, [], _ => by simp [lowP, low]
  | n :: ns, p :: ps, h => by
    have ih := lowP_low (a := ns) (b := ps) fun q hq => h q (List.mem_cons_of_mem _ hq)
    have hp := h p (List.mem_cons_self ..)
    simp only [lowP, low, ih]
    by_cases hn : 0 < n
    · have := Int.mul_le_mul_of_nonneg_left hp (show 0 ≤ n by omega)
      rw [if_pos hn]
      omega
    · have := Int.mul_le_mul_of_nonpos_left (a := n) (by omega) hp
      rw [if_neg hn]
      omega
theorem leastP_least {s : Sm} {st : List Iv} (h : ∀ p ∈ st, p.1 ≤ p.2) : leastP s st = least s st := by
  unfold leastP least
  rw [lowP_low h]
theorem setAt {α : Type} : ∀ {l : List α} {j : Nat} {x : α}, j < l.length → l.set j x = l.take j ++ [x] ++ l.drop (j + 1)
  | [], _, _, h => by simp at h
  | a :: r, 0, x, _ => by simp
  | a :: r, j + 1, x, h => by
    have ih := setAt (l := r) (j := j) (x := x) (by simpa using h)
    simp only [List.set_cons_succ, ih, List.take_succ_cons, List.cons_append, List.drop_succ_cons]
theorem A2.set {α β : Type} {R : α → β → Prop} : ∀ {a : List α} {b : List β} {j : Nat} {x : α} {y : β}, A2 R a b → R x y → A2 R (a.set j x) (b.set j y)
  | _, _, _, _, _, .nil, _ => .nil
  | _, _, 0, _, _, .cons _ t, r => .cons r t
  | _, _, j + 1, _, _, .cons h t, r => .cons h (A2.set t r)
theorem ixN_nat {n j : Nat} (h : j < n) : ixN n (j : Int) = some j := by
  unfold ixN
  rw [if_pos (by omega), if_pos (by omega)]
  rfl
/-- by a filling in the stretch a sum is at most its greatest -/
theorem mul_high {n f : Int} {p : Iv} (h1 : p.1 ≤ f) (h2 : f ≤ p.2) : n * f ≤ if 0 < n then n * p.2 else n * p.1 := by
  by_cases h : 0 < n
  · rw [if_pos h]
    exact Int.mul_le_mul_of_nonneg_left h2 (by omega)
  · rw [if_neg h]
    exact Int.mul_le_mul_of_nonpos_left (a := n) (by omega) h1
theorem high_le : ∀ {a : List Int} {st : List Iv} {fs : List Int}, InS st fs → dot a fs ≤ highP a st ∨ a.length ≠ st.length
  | [], [], [], _ => .inl (by simp [highP, dot])
  | [], _ :: _, _, _ => .inr (by simp)
  | _ :: _, [], _, _ => .inr (by simp)
  | n :: ns, p :: ps, f :: fs, h => by
    have hm := mul_high (n := n) h.1 h.2.1
    rcases high_le (a := ns) h.2.2 with h3 | h3
    · refine .inl ?_
      simp only [highP, dot]
      omega
    · exact .inr (by simpa using h3)
  | [], [], _ :: _, h => h.elim
  | _ :: _, _ :: _, [], h => h.elim
theorem most_le {s : Sm} {st : List Iv} {fs : List Int} (h : InS st fs) (hl : s.1.length = st.length) : val s fs ≤ mostP s st := by
  rcases high_le (a := s.1) h with h | h
  · unfold mostP val
    omega
  · exact absurd hl h
theorem ins_wide : ∀ {st : List Iv} {j : Nat} {p r : Iv} {fs : List Int}, st[j]? = some p → p.1 ≤ r.1 → r.2 ≤ p.2 → InS (st.take j ++ [r] ++ st.drop (j + 1)) fs → InS st fs
  | [], _, _, _, _, e, _, _, _ => by simp at e
  | q :: qs, 0, p, r, fs, e, h1, h2, h => by
    have : q = p := by simpa using e
    subst this
    cases fs with
    | nil => exact h.elim
    | cons f t =>
      have h' : r.1 ≤ f ∧ f ≤ r.2 ∧ InS qs t := by simpa [InS] using h
      exact ⟨by omega, by omega, h'.2.2⟩
  | q :: qs, j + 1, p, r, fs, e, h1, h2, h => by
    cases fs with
    | nil => exact h.elim
    | cons f t =>
      have h' : q.1 ≤ f ∧ f ≤ q.2 ∧ InS (qs.take j ++ [r] ++ qs.drop (j + 1)) t := by simpa [InS] using h
      exact ⟨h'.1, h'.2.1, ins_wide (by simpa using e) h1 h2 h'.2.2⟩
theorem ins_low : ∀ {st : List Iv}, (∀ p ∈ st, p.1 ≤ p.2) → InS st (st.map (·.1))
  | [], _ => trivial
  | p :: ps, h => ⟨Int.le_refl _, h p (List.mem_cons_self ..), ins_low fun q hq => h q (List.mem_cons_of_mem _ hq)⟩
theorem in_allIn : ∀ {st : List Iv} {ff : List (List Int)} {f fs : List Int}, f ∈ ff → InS st fs → f ++ fs ∈ st.foldl ext ff
  | [], ff, f, [], m, _ => by simpa using m
  | [], _, _, _ :: _, _, h => h.elim
  | _ :: _, _, _, [], _, h => h.elim
  | p :: ps, ff, f, x :: fs, m, h => by
    have m1 : f ++ [x] ∈ ext ff p := by
      rw [ext, List.mem_flatMap]
      refine ⟨f, m, List.mem_map.mpr ⟨(x - p.1).toNat, List.mem_range.mpr ?_, ?_⟩⟩
      · have h1 := h.1
        have h2 := h.2.1
        unfold many
        omega
      · have h1 := h.1
        have e : p.1 + ((x - p.1).toNat : Int) = x := by omega
        rw [e]
    have q := in_allIn (st := ps) m1 h.2.2
    rw [List.append_assoc] at q
    exact q
theorem allIn_of {st : List Iv} {fs : List Int} (h : InS st fs) : fs ∈ allIn st := by
  have q := in_allIn (ff := [[]]) (f := []) (by simp) h
  simpa [allIn] using q
theorem a2Snoc {α β : Type} {R : α → β → Prop} {a : List α} {x : α} {b : List β} (h : A2 R (a ++ [x]) b) : ∃ c y, b = c ++ [y] ∧ A2 R a c ∧ R x y := by
  induction a generalizing b with
  | nil =>
    cases h with
    | cons h t =>
      cases t
      exact ⟨[], _, rfl, .nil, h⟩
  | cons z r ih =>
    cases h with
    | cons h t =>
      obtain ⟨c, y, rfl, h1, h2⟩ := ih t
      exact ⟨_ :: c, y, rfl, .cons h h1, h2⟩
end LW

/-! zip(*l) of a list of one to three tuples, walked with a name as the target. -/
namespace LW
open PySem PySem.Spec PyProof.Rows L2

abbrev zCells (c0 : Value) (f : Bool) (TI TO : Addr) : Obj := { cls := .type "zip", dict := none, data := .fields #[c0, .bool f, .bool false, .ref TI, .ref TO], slots := #[] }
abbrev tCells (us : List Value) : Obj := { cls := .type "tuple", data := .seq us.toArray }
/-- what the tuple's field says: none, or the number of one that was told -/
def ToldC (c0 : Value) : Prop := c0 = .none ∨ ∃ T : Addr, c0 = rawInt T
structure ZsAt (z TI TO : Addr) (ws : List (Addr × Addr)) (h : Heap) (c0 : Value) (f : Bool) (us : List Value) (at_ : Nat → Nat) : Prop where
  z : h.get? z = some (zCells c0 f TI TO)
  ti : h.get? TI = some (tCells (ws.map fun w => Value.ref w.1))
  to : h.get? TO = some (tCells us)
  len : us.length = ws.length
  its : ∀ k w, ws[k]? = some w → h.IsTupleIter w.1 w.2 (at_ k)
structure ZsApart (z TI TO : Addr) (ws : List (Addr × Addr)) : Prop where
  zTI : z ≠ TI
  zTO : z ≠ TO
  TITO : TI ≠ TO
  out : ∀ w ∈ ws, w.1 ≠ z ∧ w.1 ≠ TI ∧ w.1 ≠ TO ∧ w.2 ≠ z ∧ w.2 ≠ TO
  own : ∀ w ∈ ws, ∀ x ∈ ws, w.2 ≠ x.1
  sep : ∀ (j k : Nat) w x, ws[j]? = some w → ws[k]? = some x → j ≠ k → w.1 ≠ x.1

section
variable {prog : Program} {w : World} {A : Around} {E : Value → Shared → Prop} {s : Shared} {z TI TO : Addr} {ws : List (Addr × Addr)}

theorem loadAny {a : Addr} {Q : Option Obj → Shared → Prop} (h : Q (s.heap.get? a) s) : wpAny (model prog w) A (loadIfAlive a) Q E s := fun _ _ _ => h

/-- whether it is free: one or the other -/
theorem free_any {c0 : Value} {f : Bool} {Q : Bool → Shared → Prop} (hc : ToldC c0) (hz : s.heap.get? z = some (zCells c0 f TI TO))
    (h : ∀ b f' h', h'.get? z = some (zCells c0 f' TI TO) → Heap.SameBut z s.heap h' → Q b { s with heap := h' }) : wpAny (model prog w) A (Builtin.SmallTypes.ownedTupleIsFree (.ref z)) Q E s := by
  unfold Builtin.SmallTypes.ownedTupleIsFree
  rcases hc with rfl | ⟨T, rfl⟩
  · exact wpAny_bind (wpAny_field hz rfl (x := .none) rfl (wpAny_pure (h true f s.heap hz (Heap.SameBut.refl _ _))))
  · refine wpAny_bind (wpAny_field hz rfl (x := rawInt T) rfl ?_)
    show wpAny _ _ (loadIfAlive ((T : Int).toNat) >>= _) _ _ _
    refine wpAny_bind (loadAny ?_)
    cases s.heap.get? (T : Int).toNat with
    | none => exact wpAny_pure (h true f s.heap hz (Heap.SameBut.refl _ _))
    | some o =>
      refine wpAny_bind (wpAny_field hz rfl (x := .bool f) rfl ?_)
      cases f with
      | true => exact wpAny_pure (h false true s.heap hz (Heap.SameBut.refl _ _))
      | false => exact wpAny_bind (wpAny_setField_rec hz (by simp) fun h1 hz1 hs1 => wpAny_pure (h false true h1 hz1 hs1))

end

/-- where the iterators stand when the first j of them were drawn from -/
def drawn (i j k : Nat) : Nat := if k < j then i + 1 else i
theorem wsAt {ws : List (Addr × Addr)} {j : Nat} {w : Addr × Addr} (h : ws[j]? = some w) : w ∈ ws := List.mem_of_getElem? h

section
variable {prog : Program} {W : World} {A : Around} {E : Value → Shared → Prop} {s : Shared} {z TI TO : Addr} {ws : List (Addr × Addr)} {i : Nat} {col : Nat → Value}

/-- h' is h but for the cells in cs -/
def Spare (cs : List Addr) (h h' : Heap) : Prop := h'.objs.size = h.objs.size ∧ ∀ c, c ∉ cs → ∀ o, h.get? c = some o → h'.get? c = some o
theorem Spare.refl (cs : List Addr) (h : Heap) : Spare cs h h := ⟨rfl, fun _ _ _ e => e⟩
theorem Spare.trans {cs ds : List Addr} {h h1 h2 : Heap} (a : Spare cs h h1) (b : Spare ds h1 h2) : Spare (cs ++ ds) h h2 :=
  ⟨b.1.trans a.1, fun c hc o e => b.2 c (fun q => hc (List.mem_append_right _ q)) o (a.2 c (fun q => hc (List.mem_append_left _ q)) o e)⟩
theorem Spare.mono {cs ds : List Addr} {h h1 : Heap} (a : Spare cs h h1) (l : ∀ c ∈ cs, c ∈ ds) : Spare ds h h1 := ⟨a.1, fun c hc o e => a.2 c (fun q => hc (l c q)) o e⟩
theorem Spare.of {c : Addr} {h h1 : Heap} (a : Heap.SameBut c h h1) : Spare [c] h h1 := ⟨a.1, fun d hd o e => a.extBut d o (by simpa using hd) e⟩

/-- the state within a turn: the first j iterators drawn from; the zip's own cell and its told tuple aside -/
structure Mid (ws : List (Addr × Addr)) (i : Nat) (col : Nat → Value) (j : Nat) (h : Heap) : Prop where
  its : ∀ k w, ws[k]? = some w → h.IsTupleIter w.1 w.2 (drawn i j k)
  val : ∀ k w, ws[k]? = some w → ∃ us : Array Value, h.IsTuple w.2 us ∧ us[i]? = some (col k)
theorem Mid.but {D : ZsApart z TI TO ws} {j : Nat} {h h' : Heap} (m : Mid ws i col j h) {cs : List Addr} (b : Spare cs h h') (l : ∀ c ∈ cs, c = z ∨ c = TO) : Mid ws i col j h' := by
  refine ⟨fun k w e => ?_, fun k w e => ?_⟩
  · have o := D.out w (wsAt e)
    exact (m.its k w e).at fun ob q => b.2 _ (fun y => by rcases l _ y with h | h <;> simp_all) ob q
  · have o := D.out w (wsAt e)
    obtain ⟨us, h1, h2⟩ := m.val k w e
    exact ⟨us, h1.at fun ob q => b.2 _ (fun y => by rcases l _ y with h | h <;> simp_all) ob q, h2⟩
/-- one drawn from -/
theorem draw1 (D : ZsApart z TI TO ws) {j : Nat} {w : Addr × Addr} (m : Mid ws i col j s.heap) (e : ws[j]? = some w) {Q : Value → Shared → Prop}
    (h : ∀ h', Mid ws i col (j + 1) h' → Spare [w.1] s.heap h' → Q (col j) { s with heap := h' }) : wpAny (model prog W) A (Builtin.SmallTypes.nextOf (.ref w.1)) Q E s := by
  obtain ⟨us, h1, h2⟩ := m.val j w e
  have hi : s.heap.IsTupleIter w.1 w.2 i := by
    have q := m.its j w e
    simpa [drawn] using q
  refine wpAny_nextOf_tuple_item hi h1 h2 fun h' hit hs => h h' ⟨fun k x ex => ?_, fun k x ex => ?_⟩ (.of hs)
  · by_cases hk : k = j
    · subst hk
      have : w = x := Option.some.inj (e.symm.trans ex)
      subst this
      simpa [drawn] using hit
    · have ne : x.1 ≠ w.1 := D.sep k j x w ex e hk
      have q := m.its k x ex
      have dr : drawn i (j + 1) k = drawn i j k := by
        unfold drawn
        by_cases h1 : k < j
        · rw [if_pos h1, if_pos (by omega)]
        · rw [if_neg h1, if_neg (by omega)]
      rw [dr]
      exact q.at fun ob y => hs.extBut _ _ ne y
  · obtain ⟨us, q1, q2⟩ := m.val k x ex
    exact ⟨us, q1.at fun ob y => hs.extBut _ _ (D.own x (wsAt ex) w (wsAt e)) y, q2⟩
end

section
variable {prog : Program} {W : World} {A : Around} {E : Value → Shared → Prop} {s : Shared} {z TI TO : Addr} {ws : List (Addr × Addr)} {i : Nat} {col : Nat → Value}
theorem updTup {T : Addr} {us : List Value} {x : Value} {k : Nat} {Q : Unit → Shared → Prop} (hT : s.heap.get? T = some (tCells us)) (lt : us.length ≤ 100)
    (h : ∀ h', h'.get? T = some (tCells (us.set k x)) → Heap.SameBut T s.heap h' → Q () { s with heap := h' }) : wpAny (model prog W) A (updateSeq T (·.setIfInBounds k x)) Q E s := by
  have sz : (100 : Nat) ≤ sizeLine := by decide
  refine wpAny_updateSeq hT rfl (h _ ?_ (Heap.SameBut.update ..)) (by simp; omega) (by simp; omega)
  rw [Heap.get?_update_self _ hT rfl]
  simp [Obj.mapSeq]
theorem dropAt {α : Type} {l : List α} {j : Nat} {x : α} {r : List α} (e : x :: r = l.drop j) : l[j]? = some x ∧ r = l.drop (j + 1) := by
  have h1 : (l.drop j)[0]? = some x := by rw [← e]; rfl
  refine ⟨by simpa using h1, ?_⟩
  have h2 : (l.drop j).drop 1 = r := by rw [← e]; rfl
  rw [← h2, List.drop_drop]
theorem dropNil {α : Type} {l : List α} {j : Nat} (e : [] = l.drop j) (h : j ≤ l.length) : j = l.length := by
  have := congrArg List.length e
  simp at this
  omega
/-- one turn: a new tuple of what the iterators gave -/
theorem zs_item {w0 : Addr × Addr} {wr : List (Addr × Addr)} (ew : ws = w0 :: wr) (D : ZsApart z TI TO ws) {c0 : Value} {f : Bool} {us : List Value} (hc : ToldC c0) (hz : s.heap.get? z = some (zCells c0 f TI TO)) (hTI : s.heap.get? TI = some (tCells (ws.map fun w => Value.ref w.1)))
    (hTO : s.heap.get? TO = some (tCells us)) (hl : us.length = ws.length) (lw : ws.length ≤ 100) (m : Mid ws i col 0 s.heap) {Q : Value → Shared → Prop}
    (h : ∀ c1 f1 us1 h', ToldC c1 → h'.get? z = some (zCells c1 f1 TI TO) → h'.get? TO = some (tCells us1) → us1.length = ws.length → Mid ws i col ws.length h' → h'.get? s.heap.objs.size = some (tCells ((List.range ws.length).map col)) → 
      (∀ c, c ∉ [z, TO] ++ ws.map (·.1) → ∀ o, s.heap.get? c = some o → h'.get? c = some o) → Q (.ref s.heap.objs.size) { s with heap := h' }) :
    wpAny (model prog W) A (Builtin.«zip.__next__» ⟨[.ref z], []⟩) (fun fin s' => ∃ v, fin = .done (.ret v) ∧ Q v s') E s := by
  have sz : (100 : Nat) ≤ sizeLine := by decide
  have zlt : z < s.heap.objs.size := Heap.lt_size hz
  have Tlt : TO < s.heap.objs.size := Heap.lt_size hTO
  have wlt : ∀ w ∈ ws, w.1 < s.heap.objs.size := fun w hw => by
    obtain ⟨k, hk⟩ := List.getElem?_of_mem hw
    obtain ⟨o, ho, _⟩ := m.its k w hk
    exact Heap.lt_size ho
  have outz : z ∉ ws.map (·.1) := fun q => by
    obtain ⟨w, hw, e⟩ := List.mem_map.mp q
    exact (D.out w hw).1 e
  have outT : TO ∉ ws.map (·.1) := fun q => by
    obtain ⟨w, hw, e⟩ := List.mem_map.mp q
    exact (D.out w hw).2.2.1 e
  have mem1 : ∀ {w}, w ∈ ws → ∀ c ∈ [w.1], c ∈ [z, TO] ++ ws.map (·.1) := fun hw c hc => by
    rw [List.mem_singleton.mp hc]
    exact List.mem_append_right _ (List.mem_map_of_mem hw)
  have mid : ∀ {j : Nat} {h h' : Heap} {cs : List Addr}, Mid ws i col j h → Spare cs h h' → (∀ c ∈ cs, c = z ∨ c = TO) → Mid ws i col j h' := fun m b l => Mid.but (D := D) m b l
  have push1 : ∀ (h : Heap) (o : Obj) (hf : o.isFreed = false), ∀ c ob, h.get? c = some ob → (h.push o).get? c = some ob := fun h o _ c ob e => Heap.get?_push_of_some _ e
  have tz : ∀ {b : List Addr} {h h' : Heap}, (∀ c ∈ b, c ∈ [z, TO] ++ ws.map (·.1)) → Spare ([z, TO] ++ ws.map (·.1)) s.heap h → Spare b h h' → Spare ([z, TO] ++ ws.map (·.1)) s.heap h' := fun hb a b => (Spare.trans a b).mono fun c hc => by
    rcases List.mem_append.mp hc with q | q
    · exact q
    · exact hb c q
  subst ew
  show wpAny _ _ (field (.ref z) 2 >>= _) _ _ _
  refine wpAny_bind (wpAny_field hz rfl (x := .bool false) rfl ?_)
  show wpAny _ _ (field (.ref z) 3 >>= _) _ _ _
  refine wpAny_bind (wpAny_field hz rfl (x := .ref TI) rfl ?_)
  refine wpAny_bind (wpAny_seqItems hTI rfl ?_)
  show wpAny _ _ (Builtin.SmallTypes.ownedTupleIsFree (.ref z) >>= _) _ _ _
  refine wpAny_bind (free_any hc hz fun b f1 h1 hz1 hs1 => ?_)
  have b1 : Spare ([z, TO] ++ (w0 :: wr).map (·.1)) s.heap h1 := (Spare.of hs1).mono fun c hc => by rw [List.mem_singleton.mp hc]; simp
  have m1 := mid m (Spare.of hs1) fun c hc => .inl (List.mem_singleton.mp hc)
  have hTO1 : h1.get? TO = some (tCells us) := hs1.extBut _ _ D.zTO.symm hTO
  generalize hws : w0 :: wr = ws at *
  cases b with
  | true =>
    simp only [if_true]
    refine wpAny_bind (wpAny_rule ?_)
    refine wpAny_bind (wpAny_field hz1 rfl (x := .ref TO) rfl ?_)
    refine wpAny_bind (wpAny_setField_rec hz1 (by simp) fun h2 hz2 hs2 => ?_)
    replace hz2 : h2.get? z = some (zCells .ellipsis f1 TI TO) := hz2
    replace hs2 : Heap.SameBut z h1 h2 := hs2
    have b2 := tz (b := [z]) (by simp) b1 (Spare.of hs2)
    have m2 := mid m1 (Spare.of hs2) fun c hc => .inl (List.mem_singleton.mp hc)
    have hTO2 : h2.get? TO = some (tCells us) := hs2.extBut _ _ D.zTO.symm hTO1
    refine wpAny_bind ?_
    refine wpAny_forIn_list _ (fun rest b s' => b = (none, ()) ∧ ∃ (j : Nat) (h3 : Heap) (us3 : List Value), s' = { s with heap := h3 } ∧ rest = (ws.map fun w => Value.ref w.1).zipIdx.drop j ∧ j ≤ ws.length ∧ h3.get? z = some (zCells .ellipsis f1 TI TO) ∧ h3.get? TO = some (tCells us3) ∧ us3.length = ws.length ∧
      (∀ k, k < j → us3[k]? = some (col k)) ∧ Mid ws i col j h3 ∧ Spare ([z, TO] ++ ws.map (·.1)) s.heap h3) _ ?_ ?_ _ _ ⟨rfl, 0, h2, us, rfl, rfl, by omega, hz2, hTO2, hl, fun k hk => by omega, m2, b2⟩
    · rintro x rest b s' ⟨rfl, j, h3, us3, rfl, er, hj, gz, gT, l3, hv, m3, b3⟩
      obtain ⟨ex, er2⟩ := dropAt er
      have hj2 : j < ws.length := by
        have := (List.getElem?_eq_some_iff.mp ex).1
        simpa using this
      have ewj : ws[j]? = some ws[j] := List.getElem?_eq_getElem hj2
      have exx : x = (Value.ref ws[j].1, j) := by
        simp [List.getElem?_zipIdx, hj2] at ex
        exact ex.symm
      subst exx
      refine wpAny_bind (wpAny_onRaise ?_)
      show wpAny _ _ (Builtin.SmallTypes.nextOf (.ref ws[j].1) >>= _) _ _ _
      refine wpAny_bind (draw1 (s := { s with heap := h3 }) D m3 ewj fun h4 m4 b4 => wpAny_pure ?_)
      replace b4 : Spare [ws[j].1] h3 h4 := b4
      have nz : z ∉ [ws[j].1] := fun q => (D.out _ (wsAt ewj)).1 (List.mem_singleton.mp q).symm
      have nT : TO ∉ [ws[j].1] := fun q => (D.out _ (wsAt ewj)).2.2.1 (List.mem_singleton.mp q).symm
      have gT4 := b4.2 _ nT _ gT
      have gz4 := b4.2 _ nz _ gz
      refine wpAny_bind (wpAny_seqItems (s := { s with heap := h4 }) gT4 rfl ?_)
      refine wpAny_bind (updTup (s := { s with heap := h4 }) gT4 (by omega) fun h5 gT5 hs5 => ?_)
      replace hs5 : Heap.SameBut TO h4 h5 := hs5
      refine wpAny_bind (wpAny_letGo (wpAny_pure ⟨rfl, j + 1, h5, _, rfl, er2, by omega, hs5.extBut _ _ D.zTO gz4, gT5, by simp [l3], fun k hk => ?_, mid m4 (Spare.of hs5) fun c hc => .inr (List.mem_singleton.mp hc), tz (by simp) (tz (mem1 (wsAt ewj)) b3 b4) (Spare.of hs5)⟩))
      by_cases ek : k = j
      · subst ek
        rw [List.getElem?_set_self (by omega)]
      · rw [List.getElem?_set_ne (by omega)]
        exact hv k (by omega)
    · rintro b s' ⟨rfl, j, h3, us3, rfl, er, hj, gz, gT, l3, hv, m3, b3⟩
      have ej : j = ws.length := by
        have := dropNil er (by simp; omega)
        simpa using this
      subst ej
      have eus : us3 = (List.range ws.length).map col := by
        apply List.ext_getElem?
        intro k
        by_cases hk : k < ws.length
        · rw [hv k hk]
          simp [hk]
        · rw [List.getElem?_eq_none (by omega), List.getElem?_eq_none (by simp; omega)]
      have sz3 : h3.objs.size = s.heap.objs.size := b3.1
      refine wpAny_bind (wpAny_seqItems (s := { s with heap := h3 }) gT rfl ?_)
      refine wpAny_bind (wpAny_newTuple (s := { s with heap := h3 }) ?_ (by simp; omega))
      show wpAny _ _ (Builtin.SmallTypes.ownedTupleHandOut (.ref z) (.ref h3.objs.size) >>= _) _ _ _
      refine wpAny_bind ?_
      unfold Builtin.SmallTypes.ownedTupleHandOut
      have gz4 : (h3.push (tCells us3)).get? z = some (zCells .ellipsis f1 TI TO) := Heap.get?_push_of_some _ gz
      refine wpAny_bind (wpAny_setField_rec (s := { s with heap := h3.push (tCells us3) }) gz4 (by simp) fun h5 gz5 hs5 => ?_)
      replace gz5 : h5.get? z = some (zCells (rawInt h3.objs.size) f1 TI TO) := gz5
      refine wpAny_setField_rec (s := { s with heap := h5 }) gz5 (by simp) fun h6 gz6 hs6 => ?_
      replace gz6 : h6.get? z = some (zCells (rawInt h3.objs.size) false TI TO) := gz6
      replace hs5 : Heap.SameBut z (h3.push (tCells us3)) h5 := hs5
      replace hs6 : Heap.SameBut z h5 h6 := hs6
      have up : ∀ c o, c ≠ z → h3.get? c = some o → h6.get? c = some o := fun c o cz e => hs6.extBut _ _ cz (hs5.extBut _ _ cz (Heap.get?_push_of_some _ e))
      have gN : h6.get? s.heap.objs.size = some (tCells us3) := by
        have nz : s.heap.objs.size ≠ z := Nat.ne_of_gt zlt
        refine hs6.extBut _ _ nz (hs5.extBut _ _ nz ?_)
        rw [← sz3]
        exact Heap.get?_push_size _ rfl
      refine wpAny_pure ⟨_, rfl, ?_⟩
      show Q (.ref h3.objs.size) _
      rw [eus] at gN
      have fin := h (rawInt h3.objs.size) false us3 h6 (.inr ⟨_, rfl⟩) gz6 (up _ _ D.zTO.symm gT) l3 ?_ gN ?_
      · rw [sz3]
        exact fin
      · refine ⟨fun k w e => ?_, fun k w e => ?_⟩
        · exact (m3.its k w e).at fun ob q => up _ _ (D.out w (wsAt e)).1 q
        · obtain ⟨vs, v1, v2⟩ := m3.val k w e
          exact ⟨vs, v1.at fun ob q => up _ _ (D.out w (wsAt e)).2.2.2.1 q, v2⟩
      · intro c hc o e
        exact up c o (fun q => hc (by simp [q])) (b3.2 c hc o e)
  | false =>
    simp only [Bool.false_eq_true, if_false]
    refine wpAny_bind ?_
    rw [← Array.forIn_toList]
    refine wpAny_forIn_list _ (fun rest b s' => ∃ (j : Nat) (h3 : Heap), b = (none, ((List.range j).map col).toArray) ∧ s' = { s with heap := h3 } ∧ rest = (ws.map fun w => Value.ref w.1).drop j ∧ j ≤ ws.length ∧ h3.get? z = some (zCells c0 f1 TI TO) ∧ h3.get? TO = some (tCells us) ∧
      Mid ws i col j h3 ∧ Spare ([z, TO] ++ ws.map (·.1)) s.heap h3) _ ?_ ?_ _ _ ⟨0, h1, rfl, rfl, by simp, by omega, hz1, hTO1, m1, b1⟩
    · rintro x rest b s' ⟨j, h3, rfl, rfl, er, hj, gz, gT, m3, b3⟩
      obtain ⟨ex, er2⟩ := dropAt er
      have hj2 : j < ws.length := by
        have := (List.getElem?_eq_some_iff.mp ex).1
        simpa using this
      have ewj : ws[j]? = some ws[j] := List.getElem?_eq_getElem hj2
      have exx : x = Value.ref ws[j].1 := by
        simp [hj2] at ex
        exact ex.symm
      subst exx
      refine wpAny_bind (wpAny_holding ?_)
      show wpAny _ _ (Builtin.SmallTypes.nextOf (.ref ws[j].1) >>= _) _ _ _
      refine wpAny_bind (draw1 (s := { s with heap := h3 }) D m3 ewj fun h4 m4 b4 => wpAny_pure ?_)
      replace b4 : Spare [ws[j].1] h3 h4 := b4
      have nz : z ∉ [ws[j].1] := fun q => (D.out _ (wsAt ewj)).1 (List.mem_singleton.mp q).symm
      have nT : TO ∉ [ws[j].1] := fun q => (D.out _ (wsAt ewj)).2.2.1 (List.mem_singleton.mp q).symm
      refine wpAny_pure ⟨j + 1, h4, ?_, rfl, er2, by omega, b4.2 _ nz _ gz, b4.2 _ nT _ gT, m4, tz (mem1 (wsAt ewj)) b3 b4⟩
      simp [List.range_succ]
    · rintro b s' ⟨j, h3, rfl, rfl, er, hj, gz, gT, m3, b3⟩
      have ej : j = ws.length := by
        have := dropNil er (by simp; omega)
        simpa using this
      subst ej
      have sz3 : h3.objs.size = s.heap.objs.size := b3.1
      refine wpAny_bind (wpAny_newTuple (s := { s with heap := h3 }) ?_ (by simp; omega))
      refine wpAny_pure ⟨_, rfl, ?_⟩
      have up : ∀ (o : Obj) c ob, h3.get? c = some ob → (h3.push o).get? c = some ob := fun o c ob e => Heap.get?_push_of_some _ e
      have fin := h c0 f1 us (h3.push (tCells ((List.range ws.length).map col))) hc (up _ _ _ gz) (up _ _ _ gT) hl ⟨fun k w e => (m3.its k w e).at fun ob q => up _ _ _ q, fun k w e => ?_⟩ ?_ fun c hc o e => up _ _ _ (b3.2 c hc o e)
      · show Q (.ref h3.objs.size) _
        rw [sz3]
        exact fin
      · obtain ⟨vs, v1, v2⟩ := m3.val k w e
        exact ⟨vs, v1.at fun ob q => up _ _ _ q, v2⟩
      · rw [← sz3]
        exact Heap.get?_push_size _ rfl
end

section
variable {prog : Program} {W : World} {A : Around} {E : Value → Shared → Prop} {s : Shared} {z TI TO : Addr} {ws : List (Addr × Addr)} {i : Nat}
/-- the first iterator has ended -/
theorem zs_end {w0 : Addr × Addr} {wr : List (Addr × Addr)} (ew : ws = w0 :: wr) (hh : A.handled = none) (D : ZsApart z TI TO ws) {c0 : Value} {f : Bool} (hc : ToldC c0) (hz : s.heap.get? z = some (zCells c0 f TI TO)) (hTI : s.heap.get? TI = some (tCells (ws.map fun w => Value.ref w.1)))
    {us : List Value} (hTO : s.heap.get? TO = some (tCells us)) (hi : s.heap.IsTupleIter w0.1 w0.2 i) {vs : Array Value} (hv : s.heap.IsTuple w0.2 vs) (hn : vs[i]? = none) {Q : Fin → Shared → Prop}
    (hE : ∀ h' e, (∀ c, c ∉ [z, TO] ++ ws.map (·.1) → ∀ o, s.heap.get? c = some o → h'.get? c = some o) → (∃ o, h'.get? e = some o ∧ o.cls = .type "StopIteration") → E (.ref e) { s with heap := h' }) :
    wpAny (model prog W) A (Builtin.«zip.__next__» ⟨[.ref z], []⟩) Q E s := by
  subst ew
  have o := D.out w0 (List.mem_cons_self ..)
  show wpAny _ _ (field (.ref z) 2 >>= _) _ _ _
  refine wpAny_bind (wpAny_field hz rfl (x := .bool false) rfl ?_)
  show wpAny _ _ (field (.ref z) 3 >>= _) _ _ _
  refine wpAny_bind (wpAny_field hz rfl (x := .ref TI) rfl ?_)
  refine wpAny_bind (wpAny_seqItems hTI rfl ?_)
  show wpAny _ _ (Builtin.SmallTypes.ownedTupleIsFree (.ref z) >>= _) _ _ _
  refine wpAny_bind (free_any hc hz fun b f1 h1 hz1 hs1 => ?_)
  cases b with
  | true =>
    simp only [if_true]
    refine wpAny_bind (wpAny_rule ?_)
    refine wpAny_bind (wpAny_field hz1 rfl (x := .ref TO) rfl ?_)
    refine wpAny_bind (wpAny_setField_rec hz1 (by simp) fun h2 hz2 hs2 => ?_)
    replace hz2 : h2.get? z = some (zCells .ellipsis f1 TI TO) := hz2
    replace hs2 : Heap.SameBut z h1 h2 := hs2
    have k2 : ∀ c, c ≠ z → ∀ ob, s.heap.get? c = some ob → h2.get? c = some ob := fun c hc ob e => hs2.extBut _ _ hc (hs1.extBut _ _ hc e)
    refine wpAny_bind ?_
    rw [List.map_cons, List.zipIdx_cons, List.forIn_cons]
    refine wpAny_bind (wpAny_bind (wpAny_onRaise ?_))
    show wpAny _ _ (Builtin.SmallTypes.nextOf (.ref w0.1) >>= _) _ _ _
    refine wpAny_bind (wpAny_nextOf_tuple_end (s := { s with heap := h2 }) hh (hi.at fun ob q => k2 _ o.1 ob q) (hv.at fun ob q => k2 _ o.2.2.2.1 ob q) hn fun h3 e hs3 he => ?_)
    have hz3 : h3.get? z = some (zCells .ellipsis f1 TI TO) := hs3 _ _ o.1.symm hz2
    refine wpAny_setField_rec (s := { s with heap := h3 }) hz3 (by simp) fun h4 hz4 hs4 => ?_
    replace hs4 : Heap.SameBut z h3 h4 := hs4
    obtain ⟨oe, e1, e2⟩ := he
    have ez : e ≠ z := fun q => by
      subst q
      rw [hz3] at e1
      cases e1
      injection e2 with q
      exact absurd q (by decide)
    refine hE h4 e (fun c hc ob y => ?_) ⟨oe, hs4.extBut _ _ ez e1, e2⟩
    have c1 : c ≠ z := fun q => hc (by simp [q])
    have c2 : c ≠ w0.1 := fun q => hc (by simp [q])
    exact hs4.extBut _ _ c1 (hs3 _ _ c2 (k2 c c1 ob y))
  | false =>
    simp only [Bool.false_eq_true, if_false]
    refine wpAny_bind ?_
    rw [← Array.forIn_toList]
    have k1 : ∀ c, c ≠ z → ∀ ob, s.heap.get? c = some ob → h1.get? c = some ob := fun c hc ob e => hs1.extBut _ _ hc e
    have e0 : ((w0 :: wr).map fun w => Value.ref w.1).toArray.toList = Value.ref w0.1 :: wr.map fun w => Value.ref w.1 := by simp
    rw [e0, List.forIn_cons]
    refine wpAny_bind (wpAny_bind (wpAny_holding ?_))
    show wpAny _ _ (Builtin.SmallTypes.nextOf (.ref w0.1) >>= _) _ _ _
    refine wpAny_bind (wpAny_nextOf_tuple_end (s := { s with heap := h1 }) hh (hi.at fun ob q => k1 _ o.1 ob q) (hv.at fun ob q => k1 _ o.2.2.2.1 ob q) hn fun h3 e hs3 he => ?_)
    refine hE h3 e (fun c hc ob y => ?_) he
    have c1 : c ≠ z := fun q => hc (by simp [q])
    have c2 : c ≠ w0.1 := fun q => hc (by simp [q])
    exact hs3 _ _ c2 (k1 c c1 ob y)
theorem zs_nextItem {Q : Option Value → Shared → Prop} {o : Obj} (hz : s.heap.get? z = some o) (hT : o.cls = .type "zip")
    (h : wpAny (model prog W) A.in1 (Builtin.«zip.__next__» ⟨[.ref z], []⟩) (fun fin s' => ∃ v, fin = .done (.ret v) ∧ Q (some v) s') (fun e s' => ∃ a, e = .ref a ∧ (∃ o, s'.heap.get? a = some o ∧ o.cls = .type "StopIteration") ∧ Q none s') s) : wpAny (model prog W) A (pyNext (.ref z)) Q E s := by
  have ty : s.TypeIs (.ref z) "zip" := ⟨_, hz, hT⟩
  unfold pyNext
  refine wpAny_bind (wpAny_attempt (wpAny_callSpecial?_slot (name := Str.ofString "__next__") ty F.slot_zip_next ?_))
  refine wpAny_call_entry F.slot_zip_next ty F.entry_zip_next ?_ (F.args_zip_next_1 _)
  refine wpAny_mono h (fun fin s1 ⟨v, e, q⟩ => ⟨v, e, wpAny_pure q⟩) fun e s1 ⟨a, ea, ⟨o, ho, hc⟩, q⟩ => ?_
  subst ea
  exact wpAny_bind (wpAny_isInstance (T := "StopIteration") (b := true) ⟨o, ho, hc⟩ isSubtype_stop (wpAny_pure q))
end

/-! ### it begins -/
theorem ntc1 (a : Value) : checkTypeCall "zip" ⟨[a], []⟩ = pure () := by kernel_rfl
theorem nnc1 (a : Value) : checkBuiltinCall "zip.__new__" ⟨[.type "zip", a], []⟩ = pure () := by kernel_rfl
section
variable {prog : Program} {W : World} {A : Around} {E : Value → Shared → Prop} {s : Shared}
/-- what stands behind the making of it: n the first new cell -/
structure Zs0 (h h' : Heap) (as : List Addr) : Prop where
  z : h'.get? (h.objs.size + as.length + 2) = some (zCells .none false (h.objs.size + as.length) (h.objs.size + as.length + 1))
  ti : h'.get? (h.objs.size + as.length) = some (tCells ((List.range as.length).map fun k => Value.ref (h.objs.size + k)))
  to : h'.get? (h.objs.size + as.length + 1) = some (tCells (as.map fun _ => Value.none))
  its : ∀ k a, as[k]? = some a → h'.IsTupleIter (h.objs.size + k) a 0
  keep : ∀ c o, h.get? c = some o → h'.get? c = some o
abbrev itO (a : Addr) : Obj := { cls := .type "tuple_iterator", data := .fields #[.ref a, .int 0 0] }
theorem meets_zs1 {a : Addr} {us : Array Value} :
    Meets (Builtin.«zip.__new__» ⟨[.type "zip", .ref a], []⟩) (fun _ R s => s.heap.IsTuple a us ∧ ∀ h', Zs0 s.heap h' [a] → R (.ok (.ret (.ref (s.heap.objs.size + 3)))) { s with heap := h' }) :=
  .of_wp fun prog w A R s h => by
    obtain ⟨hp, g, d, tk, os⟩ := s
    obtain ⟨h1, h⟩ := h
    have sub := sub_zip
    have step : ∀ {A' : Around} {E : Value → Shared → Prop} {Q : Value → Shared → Prop}, Q (.ref hp.objs.size) ⟨hp.push (itO a), g, d, tk, os⟩ → wpAny (model prog w) A' (pyIter (.ref a)) Q E ⟨hp, g, d, tk, os⟩ :=
      fun q => (begins_tuple a us).iter prog w _ _ ⟨hp, g, d, tk, os⟩ _ h1 q
    wp_walk using step
    refine ⟨_, rfl, ?_⟩
    have s1 : (hp.push (itO a)).objs.size = hp.objs.size + 1 := Heap.size_push ..
    have s2 : ((hp.push (itO a)).push (tCells [Value.ref hp.objs.size])).objs.size = hp.objs.size + 2 := by rw [Heap.size_push, s1]
    have s3 : (((hp.push (itO a)).push (tCells [Value.ref hp.objs.size])).push (tCells [Value.none])).objs.size = hp.objs.size + 3 := by rw [Heap.size_push, s2]
    have fin := h ((((hp.push (itO a)).push (tCells [Value.ref hp.objs.size])).push (tCells [Value.none])).push (zCells .none false (hp.push (itO a)).objs.size ((hp.push (itO a)).push (tCells [Value.ref hp.objs.size])).objs.size)) ⟨?_, ?_, ?_, fun k x e => ?_, fun c o e => ?_⟩
    · rw [← s3] at fin
      exact fin
    · show Heap.get? _ (hp.objs.size + 3) = some (zCells .none false (hp.objs.size + 1) (hp.objs.size + 2))
      rw [← s3, Heap.get?_push_size _ rfl, s1, s2]
    · show Heap.get? _ (hp.objs.size + 1) = some (tCells [Value.ref hp.objs.size])
      rw [← s1]
      exact Heap.get?_push_of_some _ (Heap.get?_push_of_some _ (Heap.get?_push_size _ rfl))
    · show Heap.get? _ (hp.objs.size + 2) = some (tCells [Value.none])
      rw [← s2]
      exact Heap.get?_push_of_some _ (Heap.get?_push_size _ rfl)
    · cases k with
      | zero =>
        have : a = x := by simpa using e
        subst this
        exact ⟨_, Heap.get?_push_of_some _ (Heap.get?_push_of_some _ (Heap.get?_push_of_some _ (Heap.get?_push_size _ rfl))), rfl, rfl⟩
      | succ k => simp at e
    · exact Heap.get?_push_of_some _ (Heap.get?_push_of_some _ (Heap.get?_push_of_some _ (Heap.get?_push_of_some _ e)))
/-- the call, of one to three tuples -/
theorem zs_starts {as : List Addr} (l1 : 1 ≤ as.length) (l3 : as.length ≤ 3) (ht : ∀ a ∈ as, ∃ us, s.heap.IsTuple a us) {Q : Value → Shared → Prop}
    (h : ∀ h', Zs0 s.heap h' as → Q (.ref (s.heap.objs.size + as.length + 2)) { s with heap := h' }) : wpAny (model prog W) A (call (.type "zip") (as.map Value.ref)) Q E s := by
  match as, l1, l3 with
  | [a], _, _ =>
    obtain ⟨us, hu⟩ := ht a (by simp)
    exact callType_new F.called_zip (by decide) (ntc1 _) (nnc1 _) (fun obj => F.args_object_init_2 obj _) F.entry_zip_new meets_zs1 ⟨hu, fun h' z => ⟨⟨_, z.z, rfl⟩, h h' z⟩⟩
  | [a, b], _, _ =>
    obtain ⟨us, hu⟩ := ht a (by simp)
    obtain ⟨vs, hv⟩ := ht b (by simp)
    refine zip_begins2 (begins_tuple a us) (begins_tuple b vs) hu hv fun h' hz hTI hTO g1 g2 hsz hk => h h' ⟨hz, hTI, hTO, fun k x e => ?_, hk⟩
    match k, e with
    | 0, e =>
      have : a = x := by simpa using e
      subst this
      exact ⟨_, g1, rfl, rfl⟩
    | 1, e =>
      have : b = x := by simpa using e
      subst this
      exact ⟨_, g2, rfl, rfl⟩
    | k + 2, e => simp at e
  | [a, b, c], _, _ =>
    obtain ⟨us, hu⟩ := ht a (by simp)
    obtain ⟨vs, hv⟩ := ht b (by simp)
    obtain ⟨xs, hx⟩ := ht c (by simp)
    refine zip_begins3 (begins_tuple a us) (begins_tuple b vs) (begins_tuple c xs) hu hv hx fun h' hz hTI hTO g1 g2 g3 hsz hk => h h' ⟨hz, hTI, hTO, fun k x e => ?_, hk⟩
    match k, e with
    | 0, e =>
      have : a = x := by simpa using e
      subst this
      exact ⟨_, g1, rfl, rfl⟩
    | 1, e =>
      have : b = x := by simpa using e
      subst this
      exact ⟨_, g2, rfl, rfl⟩
    | 2, e =>
      have : c = x := by simpa using e
      subst this
      exact ⟨_, g3, rfl, rfl⟩
    | k + 3, e => simp at e
  | _ :: _ :: _ :: _ :: _, _, l => exact absurd l (by simp)
end
end LW

namespace LW
open PySem PySem.Spec PyProof.Rows L2

/-- the i-th of each -/
def colV (xss : List (List V)) (i : Nat) : List V := xss.map (·.getD i .non)
/-- the tuples at the addresses as: the lists xss -/
abbrev TupsIn (K : PySem.W.Frag) (H : Hp) (as : List Addr) (xss : List (List V)) : Prop := Paired (SqT K H) as xss
def ItS (K : PySem.W.Frag) (as : List Addr) : It :=
  ⟨fun i H => ∃ xss : List (List V), TupsIn K H as xss ∧ ∀ xs ∈ xss, i < xs.length,
    fun i H v H' => ∃ T, v = .ref T ∧ H T = none ∧ ∀ xss, TupsIn K H as xss → H' = upd H T (.tup (colV xss i)),
    fun i H => ∃ xss : List (List V), TupsIn K H as xss ∧ ∀ xs ∈ xss, xs.length = i⟩
/-- the iterators' cells from n on, beside what they walk -/
def cellsOf : Nat → List Addr → List (Addr × Addr)
  | _, [] => []
  | n, a :: r => (n, a) :: cellsOf (n + 1) r
theorem cellsLen : ∀ (n : Nat) (as : List Addr), (cellsOf n as).length = as.length
  | _, [] => rfl
  | n, _ :: r => by simp [cellsOf, cellsLen (n + 1) r]
theorem cellsAt : ∀ (n : Nat) (as : List Addr) (k : Nat) (w : Addr × Addr), (cellsOf n as)[k]? = some w → w.1 = n + k ∧ as[k]? = some w.2
  | _, [], k, w, e => by simp [cellsOf] at e
  | n, a :: r, 0, w, e => by
    have : (n, a) = w := by simpa [cellsOf] using e
    subst this
    exact ⟨rfl, rfl⟩
  | n, a :: r, k + 1, w, e => by
    have q := cellsAt (n + 1) r k w (by simpa [cellsOf] using e)
    refine ⟨?_, by simpa using q.2⟩
    have := q.1
    have e2 : (n + 1 + k : Nat) = n + (k + 1) := by omega
    rw [this]
    exact e2
theorem cellsFst : ∀ (n : Nat) (as : List Addr), (cellsOf n as).map (fun w => Value.ref w.1) = (List.range as.length).map fun k => Value.ref (n + k)
  | _, [] => rfl
  | n, a :: r => by
    rw [cellsOf, List.map_cons, cellsFst (n + 1) r, List.length_cons, List.range_succ_eq_map, List.map_cons, List.map_map]
    congr 1
    apply List.map_congr_left
    intro k _
    show Value.ref (n + 1 + k : Nat) = Value.ref (n + (k + 1) : Nat)
    exact congrArg Value.ref (show (n + 1 + k : Nat) = n + (k + 1) by omega)
theorem cellsApart {n : Nat} {as : List Addr} (h : ∀ a ∈ as, a < n) : ZsApart (n + as.length + 2) (n + as.length) (n + as.length + 1) (cellsOf n as) := by
  have key : ∀ w ∈ cellsOf n as, n ≤ w.1 ∧ w.1 < n + as.length ∧ w.2 < n := fun w hw => by
    obtain ⟨k, hk⟩ := List.getElem?_of_mem hw
    obtain ⟨e1, e2⟩ := cellsAt n as k w hk
    have l := (List.getElem?_eq_some_iff.mp e2).1
    rw [e1]
    exact ⟨Nat.le_add_right .., Nat.add_lt_add_left l n, h _ (List.mem_of_getElem? e2)⟩
  have lt1 : ∀ m : Nat, m < m + 1 := fun m => Nat.lt_succ_self m
  refine ⟨Nat.ne_of_gt (Nat.lt_of_lt_of_le (lt1 _) (Nat.le_add_right _ 1)), Nat.ne_of_gt (lt1 _), Nat.ne_of_lt (lt1 _), fun w hw => ?_, fun w hw x hx => ?_, fun j k w x ew ex ne e => ?_⟩
  · obtain ⟨h1, h2, h3⟩ := key w hw
    exact ⟨Nat.ne_of_lt (Nat.lt_of_lt_of_le h2 (Nat.le_add_right _ 2)), Nat.ne_of_lt h2, Nat.ne_of_lt (Nat.lt_of_lt_of_le h2 (Nat.le_add_right _ 1)),
      Nat.ne_of_lt (Nat.lt_of_lt_of_le h3 (Nat.le_trans (Nat.le_add_right n _) (Nat.le_add_right _ 2))), Nat.ne_of_lt (Nat.lt_of_lt_of_le h3 (Nat.le_trans (Nat.le_add_right n _) (Nat.le_add_right _ 1)))⟩
  · exact Nat.ne_of_lt (Nat.lt_of_lt_of_le (key w hw).2.2 (key x hx).1)
  · exact ne (Nat.add_left_cancel ((cellsAt n as j w ew).1.symm.trans (e.trans (cellsAt n as k x ex).1)))

def ZsSt (z TI TO : Addr) (ws : List (Addr × Addr)) (i : Nat) (h : Heap) : Prop :=
  ∃ (c0 : Value) (f : Bool) (us : List Value), ToldC c0 ∧ h.get? z = some (zCells c0 f TI TO) ∧ h.get? TI = some (tCells (ws.map fun w => Value.ref w.1)) ∧ h.get? TO = some (tCells us) ∧ us.length = ws.length ∧ ∀ (k : Nat) (w : Addr × Addr), ws[k]? = some w → h.IsTupleIter w.1 w.2 i

/-- what stands in the tuples, item i -/
theorem colsOf {X : Cx} {pins : List (Addr × Obj)} {σ : L2.St} {H : Hp} {s : Shared} {i : Nat} (I : Inv X pins σ H s) : ∀ {as : List Addr} {xss : List (List V)}, TupsIn X.K H as xss → (∀ xs ∈ xss, i < xs.length) →
    ∃ cs : List Value, Vals (colV xss i) cs ∧ ∀ (k : Nat) a, as[k]? = some a → ∃ us : Array Value, s.heap.IsTuple a us ∧ us[i]? = some (cs.getD k .none)
  | [], [], _, _ => ⟨[], .nil, fun k a e => by simp at e⟩
  | a0 :: r, xs :: xr, .cons r0 t, h => by
    obtain ⟨cs, h1, h2⟩ := colsOf I t fun ys hy => h ys (List.mem_cons_of_mem _ hy)
    obtain ⟨its, rv, p, _⟩ := I.tuple r0
    have hi := h xs (List.mem_cons_self ..)
    obtain ⟨u, hu, ru⟩ := rv.get (List.getElem?_eq_getElem hi)
    refine ⟨u :: cs, .cons (by simpa [List.getD, hi] using ru) h1, fun k a e => ?_⟩
    cases k with
    | zero =>
      have : a0 = a := by simpa using e
      subst this
      exact ⟨its.toArray, p, by simpa using hu⟩
    | succ k =>
      obtain ⟨us, q1, q2⟩ := h2 k a (by simpa using e)
      exact ⟨us, q1, by simpa using q2⟩
theorem tupsInj {X : Cx} {pins : List (Addr × Obj)} {σ : L2.St} {H : Hp} {s : Shared} (I : Inv X pins σ H s) : ∀ {as : List Addr} {xss yss : List (List V)}, TupsIn X.K H as xss → TupsIn X.K H as yss → xss = yss
  | _, _, _, .nil, .nil => rfl
  | _, _, _, .cons r t, .cons r' t' => by rw [I.tuple_inj r r', tupsInj I t t']

theorem selfIter {prog : Program} {W : World} {A : Around} {E : Value → Shared → Prop} {s : Shared} {z : Addr} {c0 : Value} {f : Bool} {TI TO : Addr} {Q : Value → Shared → Prop} (hz : s.heap.get? z = some (zCells c0 f TI TO)) (h : Q (.ref z) s) : wpAny (model prog W) A (pyIter (.ref z)) Q E s := by
  have ty : s.TypeIs (.ref z) "zip" := ⟨_, hz, rfl⟩
  exact wpAny_pyIter_slot ty F.slot_zip_iter (wpAny_call_entry F.slot_zip_iter ty F.entry_zip_iter (wpAny_pure ⟨_, rfl, _, _, ty, F.slot_zip_next.lookup, h⟩) (F.args_zip_iter_1 _))
theorem fpS {z TI TO c : Addr} {ws : List (Addr × Addr)} (h : c ∈ [z, TI, TO] ++ ws.map (·.1)) : c = z ∨ c = TI ∨ c = TO ∨ ∃ w ∈ ws, w.1 = c := by
  rcases List.mem_append.mp h with q | q
  · have : c = z ∨ c = TI ∨ c = TO := by simpa using q
    rcases this with e | e | e
    · exact .inl e
    · exact .inr (.inl e)
    · exact .inr (.inr (.inl e))
  · exact .inr (.inr (.inr (List.mem_map.mp q)))
theorem turnS {P : Program} {w : World} {K : PySem.W.Frag} {x : Str} {pos : Pos} {z TI TO : Addr} {ws : List (Addr × Addr)} {w0 : Addr × Addr} {wr : List (Addr × Addr)} (ew : ws = w0 :: wr) (lw : ws.length ≤ 100) (D : ZsApart z TI TO ws) :
    Turn P w K (.Name x pos) (ItS K (ws.map (·.2))) ([z, TI, TO] ++ ws.map (·.1)) z (ZsSt z TI TO ws) where
  mem := by simp
  obj := by
    intro i h st d hd
    obtain ⟨c0, f, us, hc, hz, hI, hO, hl, hi⟩ := st
    rcases fpS hd with rfl | rfl | rfl | ⟨v, hv, rfl⟩
    · exact ⟨_, hz, fun v q => nomatch q⟩
    · exact ⟨_, hI, fun v q => nomatch q⟩
    · exact ⟨_, hO, fun v q => nomatch q⟩
    · obtain ⟨k, hk⟩ := List.getElem?_of_mem hv
      obtain ⟨o, ho, _, hd⟩ := hi k v hk
      exact ⟨o, ho, fun v q => by rw [hd] at q; cases q⟩
  keep := by
    intro i h h' st k
    obtain ⟨c0, f, us, hc, hz, hI, hO, hl, hi⟩ := st
    refine ⟨c0, f, us, hc, k z (by simp) _ hz, k TI (by simp) _ hI, k TO (by simp) _ hO, hl, fun j v e => (hi j v e).at fun o q => k v.1 ?_ o q⟩
    exact List.mem_append_right _ (List.mem_map_of_mem (wsAt e))
  item := by
    intro X hP hw hK hcalm i pins s σ H E I hf st hg
    subst hP hw hK
    obtain ⟨c0, f, us, hc, hz, hI, hO, hl, hi⟩ := st
    obtain ⟨xss, hx, hlt⟩ := hg
    obtain ⟨cs, rv, hcs⟩ := colsOf I hx hlt
    have lx : xss.length = ws.length := by
      have := Paired.length hx
      simpa using this.symm
    have lc : cs.length = ws.length := by
      have := rv.length
      simp [colV] at this
      omega
    have m : Mid ws i (fun k => cs.getD k .none) 0 s.heap := by
      refine ⟨fun k v e => by simpa [drawn] using hi k v e, fun k v e => ?_⟩
      exact hcs k v.2 (by simp [e])
    have ecs : (List.range ws.length).map (fun k => cs.getD k .none) = cs := by
      apply List.ext_getElem?
      intro k
      by_cases hk : k < ws.length
      · have : k < cs.length := by omega
        simp [hk, this]
      · rw [List.getElem?_eq_none (by simp; omega), List.getElem?_eq_none (by omega)]
    refine zs_nextItem hz rfl ?_
    refine wpAny_mono (zs_item ew D hc hz hI hO hl lw m (Q := fun v s' => v = .ref s.heap.objs.size ∧ ∃ x H', Inv X pins σ H' s' ∧ RelV x v ∧ (ItS X.K (ws.map (·.2))).yld i H x H' ∧ ZsSt z TI TO ws (i + 1) s'.heap ∧ ∀ b ∈ [z, TI, TO] ++ ws.map (·.1), H' b = none) fun c1 f1 us1 h' hc1 gz gO l1 m1 gN hk => ?_) (fun fin s1 ⟨v, e, q⟩ => ⟨v, e, v, rfl, wpAny_pure q.2⟩) fun e s1 q => q
    rw [ecs] at gN
    have TIn : TI ∉ [z, TO] ++ ws.map (·.1) := fun q => by
      rcases List.mem_append.mp q with q | q
      · have : TI = z ∨ TI = TO := by simpa using q
        rcases this with e | e
        · exact D.zTI e.symm
        · exact D.TITO e
      · obtain ⟨v, hv, e⟩ := List.mem_map.mp q
        exact (D.out v hv).2.1 e
    have new : ObjOk X.prog X.w (upd H s.heap.objs.size (.tup (colV xss i))) h' s.heap.objs.size (.tup (colV xss i)) :=
      ⟨by show (colV xss i).length ≤ sizeLine; have sz : (100 : Nat) ≤ sizeLine := by decide
          simp [colV]; omega, cs, rv, ⟨_, gN, rfl, _, rfl⟩⟩
    have I1 : Inv X pins σ (upd H s.heap.objs.size (.tup (colV xss i))) { s with heap := h', toks := s.toks } :=
      I.turnedNew (t' := s.toks) (ch := [z, TI, TO] ++ ws.map (·.1)) (fun d o nd q => hk d (fun y => nd (by
        rcases List.mem_append.mp y with y | y
        · have : d = z ∨ d = TO := by simpa using y
          rcases this with e | e <;> simp [e]
        · exact List.mem_append_right _ y)) o q) hf (Nat.le_refl _) new
    refine ⟨rfl, .ref s.heap.objs.size, _, I1, rfl, ⟨_, rfl, I.hok.fresh (Nat.le_refl _), fun yss hy => by rw [tupsInj I hy hx]⟩, ⟨c1, f1, us1, hc1, gz, hk _ TIn _ hI, gO, l1, fun k v e => ?_⟩, fun d hd => ?_⟩
    · have q := m1.its k v e
      have : k < ws.length := (List.getElem?_eq_some_iff.mp e).1
      simpa [drawn, this] using q
    · have dl : d < s.heap.objs.size := by
        rcases fpS hd with rfl | rfl | rfl | ⟨v, hv, rfl⟩
        · exact Heap.lt_size hz
        · exact Heap.lt_size hI
        · exact Heap.lt_size hO
        · obtain ⟨k, hk⟩ := List.getElem?_of_mem hv
          obtain ⟨o, ho, _⟩ := hi k v hk
          exact Heap.lt_size ho
      rw [upd_ne (Nat.ne_of_lt dl)]
      exact (hf d hd).1
  done := by
    intro X hP hw hK hcalm i pins s σ H E I hf st hg
    subst hP hw hK
    obtain ⟨c0, f, us, hc, hz, hI, hO, hl, hi⟩ := st
    obtain ⟨xss, hx, hlt⟩ := hg
    subst ew
    cases hx with
    | cons r0 t =>
    obtain ⟨its, rv, p, _⟩ := I.tuple r0
    have l0 := hlt _ (List.mem_cons_self ..)
    have lr := rv.length
    refine zs_nextItem hz rfl (zs_end (A := X.A.in1) rfl (I.ok.hd hcalm) D hc hz hI hO (hi 0 w0 rfl) p (by simp; omega) fun h' e hk he => ?_)
    refine ⟨e, rfl, he, rfl, ?_⟩
    exact I.turnedL (t' := s.toks) (ch := [z, TI, TO] ++ (w0 :: wr).map (·.1)) (fun d o nd q => hk d (fun y => nd (by
        rcases List.mem_append.mp y with y | y
        · have : d = z ∨ d = TO := by simpa using y
          rcases this with e | e <;> simp [e]
        · exact List.mem_append_right _ y)) o q) hf
  self := fun A i s Q E st h => by
    obtain ⟨c0, f, us, hc, hz, _⟩ := st
    exact selfIter hz h
theorem callWith_tyS {M : Model} {A : Around} {E : Value → Shared → Prop} {s : Shared} {env : Env} {pos p : Pos} {T : String} {e : Expr} {Q : Value → Shared → Prop}
    (h : wpAny M A (eval e env) (fun v s1 => PySem.W.StarOf M A E v (fun vs s2 => wpAny M A (call (.type T) vs) Q E s2) s1) E s) (he : starEach [.Starred e p] env = [(true, eval e env)]) :
    wpAny M A (callWith pos (.type T) [] (backTo pos (starEach [.Starred e p] env)) []) Q E s := by
  rw [he]
  exact PySem.W.ks_call (P := fun _ => True) rfl (fun h _ => ⟨.machine, .inr (.inl rfl), PySem.W.Looks.of_pure rfl⟩) (PySem.W.ks_lone (PySem.wpAny_mono h (fun v s1 q => PySem.wpAny_mono q (fun b s2 q2 => ⟨q2.1, PySem.wpAny_mono q2.2 (fun vs s3 q3 => ⟨trivial, q3⟩) fun _ _ x => x⟩) fun _ _ x => x) fun _ _ x => x))
def iZS (K : PySem.W.Frag) (te : TE) : TI := fun σ H R => te σ H fun v H1 => ∃ (p : Addr) (as : List Addr) (xss : List (List V)), v = .ref p ∧ (SqT K H1 p (as.map V.ref) ∨ SqL K H1 p (as.map V.ref)) ∧ TupsIn K H1 as xss ∧ 1 ≤ as.length ∧ as.length ≤ 3 ∧ R (ItS K as) H1
theorem valsRefs : ∀ {as : List Addr} {us : List Value}, Vals (as.map V.ref) us → us = as.map Value.ref
  | [], _, .nil => rfl
  | a :: r, _, .cons h t => by
    have e : _ = Value.ref a := h
    rw [e, valsRefs t]
    rfl
theorem cellsSnd : ∀ (n : Nat) (as : List Addr), (cellsOf n as).map (·.2) = as
  | _, [] => rfl
  | n, a :: r => by rw [cellsOf, List.map_cons, cellsSnd (n + 1) r]
theorem piZS {X : Cx} {e : Expr} {te : TE} {x : Str} {p sp pos tpos : Pos} (hg : Gl X "zip") (hm : X.mg "zip" = none) (he : PE X e te) (hs : starEach [.Starred e sp] X.env = [(true, eval e X.env)] := by rfl) :
    PI X (.Name x tpos) (.Call (.Name "zip" p) [.Starred e sp] [] pos) (iZS X.K te) := by
  constructor
  intro pins s σ H R I h
  refine Call_ (ld_blt I hg hm PyProof.Rows.boot_zip (callWith_tyS (thn (he.run pins s σ H _ I h) fun u s1 hyp => ?_) hs))
  obtain ⟨v, H1, I1, r1, a, as, xss, rfl, hl, hx, l1, l3, q⟩ := hyp
  obtain rfl : u = Value.ref a := r1
  refine StX.star_any I1 hl fun us s2 I2 rv => ?_
  have eus := valsRefs rv
  subst eus
  have tup : ∀ b ∈ as, ∃ us : Array Value, s2.heap.IsTuple b us ∧ b < s2.heap.objs.size := by
    have key : ∀ {as : List Addr} {xss : List (List V)}, TupsIn X.K H1 as xss → ∀ b ∈ as, ∃ us : Array Value, s2.heap.IsTuple b us ∧ b < s2.heap.objs.size := by
      intro as xss hx
      induction hx with
      | nil => intro b hb; cases hb
      | cons r t ih =>
        intro b hb
        rcases List.mem_cons.mp hb with e | hb
        · subst e
          obtain ⟨its, rv, p, _⟩ := I2.tuple r
          obtain ⟨o, ho, _⟩ := id p
          exact ⟨_, p, Heap.lt_size ho⟩
        · exact ih b hb
    exact key hx
  refine zs_starts l1 l3 (fun b hb => (tup b hb).imp fun _ q => q.1) fun h' z => wpAny_pyIter_zip z.z ?_
  have D : ZsApart _ _ _ (cellsOf s2.heap.objs.size as) := cellsApart (n := s2.heap.objs.size) fun b hb => by
    obtain ⟨_, _, l⟩ := tup b hb
    exact l
  have lc := cellsLen s2.heap.objs.size as
  obtain ⟨w0, wr, ew⟩ : ∃ w0 wr, cellsOf s2.heap.objs.size as = w0 :: wr := by
    match as, l1 with
    | a :: r, _ => exact ⟨_, _, rfl⟩
  have T := turnS (P := X.prog) (w := X.w) (K := X.K) (x := x) (pos := tpos) ew (by omega) D
  rw [cellsSnd] at T
  refine ⟨_, _, _, _, H1, rfl, I2.kept (t' := s2.toks) z.keep, T, ⟨.none, false, _, .inl rfl, z.z, ?_, z.to, by simp [lc], fun k w e => ?_⟩, fun d hd => ?_, q⟩
  · rw [cellsFst]
    exact z.ti
  · obtain ⟨e1, e2⟩ := cellsAt _ _ _ _ e
    rw [e1]
    exact z.its k w.2 e2
  · have hle : s2.heap.objs.size ≤ d := by
      rcases fpS hd with rfl | rfl | rfl | ⟨v, hv, rfl⟩
      · exact Nat.le_trans (Nat.le_add_right _ _) (Nat.le_add_right _ 2)
      · exact Nat.le_add_right _ _
      · exact Nat.le_trans (Nat.le_add_right _ _) (Nat.le_add_right _ 1)
      · obtain ⟨k, hk⟩ := List.getElem?_of_mem hv
        rw [(cellsAt _ _ _ _ hk).1]
        exact Nat.le_add_right _ _
    exact I2.fpOk hle (I2.hok.fresh hle)
/-- what a walk over it gives -/
def YCol (xss : List (List V)) : Nat → Hp → V → Hp → Prop := fun i H v H' => ∃ T, v = .ref T ∧ H T = none ∧ H' = upd H T (.tup (colV xss i))
theorem walkS {K : PySem.W.Frag} {as : List Addr} {xss : List (List V)} {n : Nat} (hn : ∀ xs ∈ xss, xs.length = n) : Walk (ItS K as) n (fun H => TupsIn K H as xss) (YCol xss) :=
  ⟨fun i H hi h => ⟨xss, h, fun xs hx => by rw [hn xs hx]; exact hi⟩, fun H h => ⟨xss, h, hn⟩, fun i H v H' hi h y => by
    obtain ⟨T, e1, e2, e3⟩ := y
    exact ⟨T, e1, e2, e3 xss h⟩⟩
theorem kZS {X : Cx} {K : PySem.W.Frag} {e : Expr} {te : TE} {x : Str} {p sp pos tpos : Pos} (h : X.K = K) (hg : Gl X "zip") (hm : X.mg "zip" = none) (he : PE X e te) (hs : starEach [.Starred e sp] X.env = [(true, eval e X.env)] := by rfl) :
    PI X (.Name x tpos) (.Call (.Name "zip" p) [.Starred e sp] [] pos) (iZS K te) := by subst h; exact piZS hg hm he hs
end LW

/-! rows, places in them, ways: in plain lists -/
namespace LW
open PySem PySem.Spec PyProof.Rows L2

inductive Rs where
  | nil
  | put (b : Nat) (s : Sm) (t : Rs)
  | say (w : Sm) (t : Rs)
  | ite (w : Sm) (a b t : Rs)
  | loop (w : Sm) (ws : List Sm) (b t : Rs)
def Rs.ds : Rs → List D
  | .nil => []
  | .put b s t => .tup [.str "put", .int (b : Nat), dSm s] :: t.ds
  | .say w t => .tup [.str "say", dSm w] :: t.ds
  | .ite w a b t => .tup [.str "if", dSm w, .tup a.ds, .tup b.ds] :: t.ds
  | .loop w ws b t => .tup [.str "loop", dSm w, .tup (ws.map dSm), .tup b.ds] :: t.ds
def Rs.W (many : Nat) : Rs → Prop
  | .nil => True
  | .put b s t => b < many ∧ SumW many s ∧ t.W many
  | .say w t => SumW many w ∧ t.W many
  | .ite w a b t => SumW many w ∧ a.W many ∧ b.W many ∧ t.W many
  | .loop w ws b t => SumW many w ∧ (∀ x ∈ ws, SumW many x) ∧ ws.length ≤ 3 ∧ b.W many ∧ t.W many
def Rs.dep : Rs → Nat
  | .nil => 0
  | .put _ _ t => t.dep
  | .say _ t => t.dep
  | .ite _ a b t => max (max a.dep b.dep + 1) t.dep
  | .loop _ _ b t => max (b.dep + 1) t.dep
/-- all rows, those within others too -/
def Rs.num : Rs → Nat
  | .nil => 0
  | .put _ _ t => t.num + 1
  | .say _ t => t.num + 1
  | .ite _ a b t => a.num + b.num + t.num + 1
  | .loop _ _ b t => b.num + t.num + 1
def Rs.tl : Rs → Rs
  | .nil => .nil
  | .put _ _ t => t
  | .say _ t => t
  | .ite _ _ _ t => t
  | .loop _ _ _ t => t
def Rs.isNil : Rs → Bool
  | .nil => true
  | _ => false

/-- good rows are such -/
theorem rsOf {many : Nat} : ∀ (r : Nat) (rows : List D), (∀ d ∈ rows, GRow many r d) → ∃ R : Rs, R.ds = rows ∧ R.W many ∧ R.dep ≤ r := by
  intro r
  induction r with
  | zero =>
    intro rows
    induction rows with
    | nil => exact fun _ => ⟨.nil, rfl, trivial, Nat.le_refl _⟩
    | cons d t ih =>
      intro h
      obtain ⟨T, e, w, hd⟩ := ih fun x hx => h x (List.mem_cons_of_mem _ hx)
      have g := h d (List.mem_cons_self ..)
      rcases gKinds g with ⟨b, s, e1⟩ | ⟨x, e1⟩ | ⟨r', x, a, b, e0, _⟩ | ⟨r', x, ws, b, e0, _⟩
      · rcases rowKinds' g.1 with ⟨i, sm, rfl, i0, i1, sw⟩ | ⟨sm, rfl, _⟩ | ⟨sm, a, b, rfl, _⟩ | ⟨sm, wl, b, rfl, _⟩
        · exact ⟨.put i.toNat sm T, by simp only [Rs.ds, e]; rw [show ((i.toNat : Nat) : Int) = i by omega], ⟨by omega, sw, w⟩, hd⟩
        · cases e1
        · cases e1
        · cases e1
      · rcases rowKinds' g.1 with ⟨i, sm, rfl, _⟩ | ⟨sm, rfl, sw⟩ | ⟨sm, a, b, rfl, _⟩ | ⟨sm, wl, b, rfl, _⟩
        · cases e1
        · exact ⟨.say sm T, by simp only [Rs.ds, e], ⟨sw, w⟩, hd⟩
        · cases e1
        · cases e1
      · cases e0
      · cases e0
  | succ r ihr =>
    intro rows
    induction rows with
    | nil => exact fun _ => ⟨.nil, rfl, trivial, Nat.zero_le _⟩
    | cons d t ih =>
      intro h
      obtain ⟨T, e, w, hd⟩ := ih fun x hx => h x (List.mem_cons_of_mem _ hx)
      have g := h d (List.mem_cons_self ..)
      rcases gKinds g with ⟨b, s, e1⟩ | ⟨x, e1⟩ | ⟨r', x, a, b, e0, e1, ga, gb⟩ | ⟨r', x, ws, b, e0, e1, gb⟩
      · rcases rowKinds' g.1 with ⟨i, sm, rfl, i0, i1, sw⟩ | ⟨sm, rfl, _⟩ | ⟨sm, a, b, rfl, _⟩ | ⟨sm, wl, b, rfl, _⟩
        · exact ⟨.put i.toNat sm T, by simp only [Rs.ds, e]; rw [show ((i.toNat : Nat) : Int) = i by omega], ⟨by omega, sw, w⟩, hd⟩
        · cases e1
        · cases e1
        · cases e1
      · rcases rowKinds' g.1 with ⟨i, sm, rfl, _⟩ | ⟨sm, rfl, sw⟩ | ⟨sm, a, b, rfl, _⟩ | ⟨sm, wl, b, rfl, _⟩
        · cases e1
        · exact ⟨.say sm T, by simp only [Rs.ds, e], ⟨sw, w⟩, hd⟩
        · cases e1
        · cases e1
      · have er : r' = r := by omega
        subst er
        obtain ⟨A, ea, wa, da⟩ := ihr a ga
        obtain ⟨B, eb, wb, db⟩ := ihr b gb
        rcases rowKinds' g.1 with ⟨i, sm, e2, _⟩ | ⟨sm, e2, _⟩ | ⟨sm, a2, b2, e2, sw⟩ | ⟨sm, wl, b2, e2, _⟩
        · rw [e1] at e2; cases e2
        · rw [e1] at e2; cases e2
        · rw [e1] at e2
          cases e2
          exact ⟨.ite sm A B T, by simp only [Rs.ds, e, ea, eb, e1], ⟨sw, wa, wb, w⟩, by simp only [Rs.dep]; omega⟩
        · rw [e1] at e2
          injection e2 with e2
          injection e2 with e2 _
          injection e2 with e2
          exact absurd e2 kinds.2.2.2.2.2.1
      · have er : r' = r := by omega
        subst er
        obtain ⟨B, eb, wb, db⟩ := ihr b gb
        rcases rowKinds' g.1 with ⟨i, sm, e2, _⟩ | ⟨sm, e2, _⟩ | ⟨sm, a2, b2, e2, sw⟩ | ⟨sm, wl, b2, e2, sw, hwl, l3⟩
        · rw [e1] at e2; cases e2
        · rw [e1] at e2; cases e2
        · rw [e1] at e2
          injection e2 with e2
          injection e2 with e2 _
          injection e2 with e2
          exact absurd e2 kinds.2.2.2.2.1
        · rw [e1] at e2
          cases e2
          exact ⟨.loop sm wl B T, by simp only [Rs.ds, e, eb, e1], ⟨sw, hwl, l3, wb, w⟩, by simp only [Rs.dep]; omega⟩
theorem rs_cnt : ∀ (R : Rs) (r : Nat), R.dep ≤ r → cnt (r + 1) (.tup R.ds) = R.num
  | .nil, r, _ => rfl
  | .put b s t, r, h => by
    have ih := rs_cnt t r h
    rw [cnt_tup] at ih ⊢
    simp only [Rs.ds, List.map_cons, List.sum_cons, ih, cntRow, in_put, Rs.num]
    simp; omega
  | .say s t, r, h => by
    have ih := rs_cnt t r h
    rw [cnt_tup] at ih ⊢
    simp only [Rs.ds, List.map_cons, List.sum_cons, ih, cntRow, in_say, Rs.num]
    simp; omega
  | .ite w a b t, r, h => by
    simp only [Rs.dep] at h
    have ih := rs_cnt t r (by omega)
    obtain ⟨r', rfl⟩ : ∃ r', r = r' + 1 := ⟨r - 1, by omega⟩
    have ia := rs_cnt a r' (by omega)
    have ib := rs_cnt b r' (by omega)
    rw [cnt_tup] at ih ⊢
    simp only [Rs.ds, List.map_cons, List.sum_cons, ih, cntRow, in_if, Rs.num, List.map_nil, List.sum_nil, ia, ib]
    omega
  | .loop w ws b t, r, h => by
    simp only [Rs.dep] at h
    have ih := rs_cnt t r (by omega)
    obtain ⟨r', rfl⟩ : ∃ r', r = r' + 1 := ⟨r - 1, by omega⟩
    have ib := rs_cnt b r' (by omega)
    rw [cnt_tup] at ih ⊢
    simp only [Rs.ds, List.map_cons, List.sum_cons, ih, cntRow, in_loop, Rs.num, List.map_nil, List.sum_nil, ib]
    omega

/-! ### positions: a block's rest, and what lies around it -/
inductive Fr where
  | top
  | ifF (ah : List Nat) (i : Nat) (t : Rs) (up : Fr)
  | loopF (ah : List Nat) (i : Nat) (w : Sm) (ws : List Sm) (b t : Rs) (up : Fr)
structure Pos' where
  ah : List Nat
  i : Nat
  rs : Rs
  fr : Fr
def Pos'.at_ (p : Pos') : List Nat := p.ah ++ [p.i]
/-- where one comes to from a block's rest -/
def norm : Fr → Rs → List Nat → Nat → Option Pos'
  | .top, .nil, _, _ => none
  | .ifF ah i t up, .nil, _, _ => norm up t ah i
  | .loopF ah i w ws b t up, .nil, _, _ => some ⟨ah, i, .loop w ws b t, up⟩
  | fr, .put b s t, ah, i => some ⟨ah, i, .put b s t, fr⟩
  | fr, .say w t, ah, i => some ⟨ah, i, .say w t, fr⟩
  | fr, .ite w a b t, ah, i => some ⟨ah, i, .ite w a b t, fr⟩
  | fr, .loop w ws b t, ah, i => some ⟨ah, i, .loop w ws b t, fr⟩
inductive At (R : Rs) : List Nat → Nat → Rs → Fr → Prop
  | top : At R [] 0 R .top
  | put {ah i b s t fr} (h : At R ah i (.put b s t) fr) : At R ah (i + 1) t fr
  | say {ah i w t fr} (h : At R ah i (.say w t) fr) : At R ah (i + 1) t fr
  | ite {ah i w a b t fr} (h : At R ah i (.ite w a b t) fr) : At R ah (i + 1) t fr
  | loop {ah i w ws b t fr} (h : At R ah i (.loop w ws b t) fr) : At R ah (i + 1) t fr
  | ifA {ah i w a b t fr} (h : At R ah i (.ite w a b t) fr) : At R (ah ++ [i, 0]) 0 a (.ifF ah (i + 1) t fr)
  | ifB {ah i w a b t fr} (h : At R ah i (.ite w a b t) fr) : At R (ah ++ [i, 1]) 0 b (.ifF ah (i + 1) t fr)
  | body {ah i w ws b t fr} (h : At R ah i (.loop w ws b t) fr) : At R (ah ++ [i, 0]) 0 b (.loopF ah i w ws b t fr)
/-- what lies around is a position, too -/
def Up (R : Rs) (ah : List Nat) : Fr → Prop
  | .top => ah = []
  | .ifF ah2 i2 t up => ∃ (w : Sm) (a b : Rs) (j g : Nat), i2 = j + 1 ∧ ah = ah2 ++ [j, g] ∧ At R ah2 j (.ite w a b t) up
  | .loopF ah2 i2 w ws b t up => ah = ah2 ++ [i2, 0] ∧ At R ah2 i2 (.loop w ws b t) up
theorem At.up {R : Rs} {ah : List Nat} {i : Nat} {rs : Rs} {fr : Fr} (h : At R ah i rs fr) : Up R ah fr := by
  induction h with
  | top => exact rfl
  | put h ih => exact ih
  | say h ih => exact ih
  | ite h ih => exact ih
  | loop h ih => exact ih
  | ifA h ih => exact ⟨_, _, _, _, 0, rfl, rfl, h⟩
  | ifB h ih => exact ⟨_, _, _, _, 1, rfl, rfl, h⟩
  | body h ih => exact ⟨rfl, h⟩
theorem At.norm {R : Rs} : ∀ {fr : Fr} {ah : List Nat} {i : Nat} {rs : Rs} {p : Pos'}, At R ah i rs fr → LW.norm fr rs ah i = some p → At R p.ah p.i p.rs p.fr ∧ p.rs.isNil = false
  | .top, ah, i, .nil, p, h, e => by cases e
  | .ifF ah2 i2 t up, ah, i, .nil, p, h, e => by
    obtain ⟨w, a, b, j, g, rfl, _, h2⟩ := h.up
    exact At.norm h2.ite e
  | .loopF ah2 i2 w ws b t up, ah, i, .nil, p, h, e => by
    obtain ⟨_, h2⟩ := h.up
    cases e
    exact ⟨h2, rfl⟩
  | fr, ah, i, .put b s t, p, h, e => by cases fr <;> (cases e; exact ⟨h, rfl⟩)
  | fr, ah, i, .say w t, p, h, e => by cases fr <;> (cases e; exact ⟨h, rfl⟩)
  | fr, ah, i, .ite w a b t, p, h, e => by cases fr <;> (cases e; exact ⟨h, rfl⟩)
  | fr, ah, i, .loop w ws b t, p, h, e => by cases fr <;> (cases e; exact ⟨h, rfl⟩)
theorem norm_here {fr : Fr} {rs : Rs} {ah : List Nat} {i : Nat} (h : rs.isNil = false) : norm fr rs ah i = some ⟨ah, i, rs, fr⟩ := by
  cases rs with
  | nil => cases h
  | put => cases fr <;> rfl
  | say => cases fr <;> rfl
  | ite => cases fr <;> rfl
  | loop => cases fr <;> rfl
theorem At.tl {R : Rs} {ah : List Nat} {i : Nat} {rs : Rs} {fr : Fr} (h : At R ah i rs fr) (n : rs.isNil = false) : At R ah (i + 1) rs.tl fr := by
  cases rs with
  | nil => cases n
  | put => exact h.put
  | say => exact h.say
  | ite => exact h.ite
  | loop => exact h.loop
theorem At.w {R : Rs} {many : Nat} (hw : R.W many) {ah : List Nat} {i : Nat} {rs : Rs} {fr : Fr} (h : At R ah i rs fr) : rs.W many := by
  induction h with
  | top => exact hw
  | put h ih => exact ih.2.2
  | say h ih => exact ih.2
  | ite h ih => exact ih.2.2.2
  | loop h ih => exact ih.2.2.2.2
  | ifA h ih => exact ih.2.1
  | ifB h ih => exact ih.2.2.1
  | body h ih => exact ih.2.2.2.1
theorem At.deep {R : Rs} {ah : List Nat} {i : Nat} {rs : Rs} {fr : Fr} (h : At R ah i rs fr) : ah.length + 2 * rs.dep ≤ 2 * R.dep := by
  induction h with
  | top => simp
  | put h ih => simpa [Rs.dep] using ih
  | say h ih => simpa [Rs.dep] using ih
  | ite h ih => simp only [Rs.dep] at ih; omega
  | loop h ih => simp only [Rs.dep] at ih; omega
  | ifA h ih => simp only [Rs.dep] at ih; simp; omega
  | ifB h ih => simp only [Rs.dep] at ih; simp; omega
  | body h ih => simp only [Rs.dep] at ih; simp; omega
/-- the rows that are still around -/
def Fr.num : Fr → Nat
  | .top => 0
  | .ifF _ _ t up => t.num + up.num
  | .loopF .. => 1
theorem At.num {R : Rs} {ah : List Nat} {i : Nat} {rs : Rs} {fr : Fr} (h : At R ah i rs fr) : rs.num + fr.num ≤ R.num := by
  induction h with
  | top => simp [Fr.num]
  | put h ih => simp only [Rs.num] at ih; omega
  | say h ih => simp only [Rs.num] at ih; omega
  | ite h ih => simp only [Rs.num] at ih; omega
  | loop h ih => simp only [Rs.num] at ih; omega
  | ifA h ih => simp only [Rs.num, Fr.num] at ih ⊢; omega
  | ifB h ih => simp only [Rs.num, Fr.num] at ih ⊢; omega
  | body h ih => simp only [Rs.num, Fr.num] at ih ⊢; omega

/-! ### the rows at places -/
/-- the block that lies at a place -/
def Blk (rows : List D) (ah : List Nat) (blk : List D) : Prop := (ah = [] ∧ blk = rows) ∨ ∃ (p : List Nat) (g : Nat) (d : D), ah = p ++ [g] ∧ lookR rows p = some d ∧ (inner d)[g]? = some (.tup blk)
theorem look1_app : ∀ (n : Nat) (d : D) (p : List Nat) (g i : Nat), p.length = 2 * n → look1 d (p ++ [g, i]) = (look1 d p).bind fun x => ((inner x)[g]?).bind fun y => (rowsOf y)[i]?
  | 0, d, p, g, i, h => by
    have : p = [] := List.eq_nil_of_length_eq_zero (by omega)
    subst this
    simp only [List.nil_append, look1, Option.bind_some]
    cases (inner d)[g]? with
    | none => rfl
    | some y =>
      simp only [Option.bind_some]
      cases (rowsOf y)[i]? <;> rfl
  | n + 1, d, p, g, i, h => by
    match p, h with
    | [], h => simp at h
    | [_], h => simp at h; omega
    | w :: k :: r, h =>
      simp only [List.cons_append, look1]
      cases (inner d)[w]? with
      | none => rfl
      | some x =>
        simp only [Option.bind_some]
        cases (rowsOf x)[k]? with
        | none => rfl
        | some d' =>
          simp only [Option.bind_some]
          exact look1_app n d' r g i (by simp at h; omega)
theorem look1_even : ∀ (n : Nat) (d : D) (p : List Nat) (x : D), p.length ≤ n → look1 d p = some x → p.length % 2 = 0
  | _, d, [], x, _, _ => rfl
  | _, d, [_], x, _, e => by cases e
  | 0, d, _ :: _ :: _, x, h, _ => by simp at h
  | n + 1, d, w :: k :: r, x, h, e => by
    simp only [look1] at e
    cases e1 : (inner d)[w]? with
    | none => rw [e1] at e; cases e
    | some y =>
      rw [e1] at e
      simp only [Option.bind_some] at e
      cases e2 : (rowsOf y)[k]? with
      | none => rw [e2] at e; cases e
      | some d' =>
        rw [e2] at e
        simp only [Option.bind_some] at e
        have := look1_even n d' r x (by simp at h; omega) e
        simp
        omega
theorem blk_look {rows blk : List D} {ah : List Nat} {i : Nat} {d : D} (h : Blk rows ah blk) (e : blk[i]? = some d) : lookR rows (ah ++ [i]) = some d := by
  rcases h with ⟨rfl, rfl⟩ | ⟨p, g, x, rfl, h1, h2⟩
  · simp [lookR, e, look1]
  · cases p with
    | nil => cases h1
    | cons n r =>
      simp only [lookR] at h1
      cases e1 : rows[n]? with
      | none => rw [e1] at h1; cases h1
      | some d0 =>
        rw [e1] at h1
        simp only [Option.bind_some] at h1
        have ev := look1_even r.length d0 r x (Nat.le_refl _) h1
        simp only [List.cons_append, lookR, e1, Option.bind_some, List.append_assoc]
        rw [show r ++ g :: ([] ++ [i]) = r ++ [g, i] from rfl, look1_app (r.length / 2) d0 r g i (by omega), h1]
        simp only [Option.bind_some, h2, rowsOf]
        exact e
theorem At.blk {R : Rs} {ah : List Nat} {i : Nat} {rs : Rs} {fr : Fr} (h : At R ah i rs fr) : ∃ blk, Blk R.ds ah blk ∧ blk.drop i = rs.ds ∧ i ≤ blk.length := by
  have next : ∀ {blk : List D} {i : Nat} {d : D} {t : List D}, blk.drop i = d :: t → i ≤ blk.length → blk.drop (i + 1) = t ∧ i + 1 ≤ blk.length := fun {blk i d t} e l => by
    have h1 : i < blk.length := by
      have := congrArg List.length e
      simp at this
      omega
    refine ⟨?_, h1⟩
    have := congrArg (List.drop 1) e
    simpa [List.drop_drop] using this
  have head : ∀ {blk : List D} {i : Nat} {d : D} {t : List D}, blk.drop i = d :: t → blk[i]? = some d := fun {blk i d t} e => by
    have := congrArg (fun l => l[0]?) e
    simpa using this
  induction h with
  | top => exact ⟨_, .inl ⟨rfl, rfl⟩, by simp, by simp⟩
  | put h ih =>
    obtain ⟨blk, b, e, l⟩ := ih
    obtain ⟨e2, l2⟩ := next e l
    exact ⟨blk, b, e2, l2⟩
  | say h ih =>
    obtain ⟨blk, b, e, l⟩ := ih
    obtain ⟨e2, l2⟩ := next e l
    exact ⟨blk, b, e2, l2⟩
  | ite h ih =>
    obtain ⟨blk, b, e, l⟩ := ih
    obtain ⟨e2, l2⟩ := next e l
    exact ⟨blk, b, e2, l2⟩
  | loop h ih =>
    obtain ⟨blk, b, e, l⟩ := ih
    obtain ⟨e2, l2⟩ := next e l
    exact ⟨blk, b, e2, l2⟩
  | @ifA ah i w a b t fr h ih =>
    obtain ⟨blk, bl, e, l⟩ := ih
    exact ⟨a.ds, .inr ⟨ah ++ [i], 0, _, by simp, blk_look bl (head e), by rw [in_if]; rfl⟩, by simp, by simp⟩
  | @ifB ah i w a b t fr h ih =>
    obtain ⟨blk, bl, e, l⟩ := ih
    exact ⟨b.ds, .inr ⟨ah ++ [i], 1, _, by simp, blk_look bl (head e), by rw [in_if]; rfl⟩, by simp, by simp⟩
  | @body ah i w ws b t fr h ih =>
    obtain ⟨blk, bl, e, l⟩ := ih
    exact ⟨b.ds, .inr ⟨ah ++ [i], 0, _, by simp, blk_look bl (head e), by rw [in_loop]; rfl⟩, by simp, by simp⟩
/-- the row at a position -/
def Rs.hd : Rs → D
  | .nil => .non
  | .put b s _ => .tup [.str "put", .int (b : Nat), dSm s]
  | .say w _ => .tup [.str "say", dSm w]
  | .ite w a b _ => .tup [.str "if", dSm w, .tup a.ds, .tup b.ds]
  | .loop w ws b _ => .tup [.str "loop", dSm w, .tup (ws.map dSm), .tup b.ds]
theorem Rs.ds_hd {rs : Rs} (h : rs.isNil = false) : rs.ds = rs.hd :: rs.tl.ds := by
  cases rs with
  | nil => cases h
  | _ => rfl
theorem At.row {R : Rs} {ah : List Nat} {i : Nat} {rs : Rs} {fr : Fr} (h : At R ah i rs fr) (n : rs.isNil = false) : lookR R.ds (ah ++ [i]) = some rs.hd := by
  obtain ⟨blk, b, e, l⟩ := h.blk
  refine blk_look b ?_
  rw [Rs.ds_hd n] at e
  have := congrArg (fun l => l[0]?) e
  simpa using this
/-- what lies around, with the blocks -/
def Enc (R : Rs) (ah : List Nat) (i : Nat) (rs : Rs) : Fr → Prop
  | .top => ah = [] ∧ R.ds.drop i = rs.ds ∧ i ≤ R.ds.length
  | .ifF ah2 i2 t up => ∃ (w : Sm) (a b : Rs) (j g : Nat) (blk : Rs), i2 = j + 1 ∧ ah = ah2 ++ [j, g] ∧ At R ah2 j (.ite w a b t) up ∧ ((g = 0 ∧ blk = a) ∨ (g = 1 ∧ blk = b)) ∧ blk.ds.drop i = rs.ds ∧ i ≤ blk.ds.length
  | .loopF ah2 i2 w ws b t up => ah = ah2 ++ [i2, 0] ∧ At R ah2 i2 (.loop w ws b t) up ∧ b.ds.drop i = rs.ds ∧ i ≤ b.ds.length
theorem At.enc {R : Rs} {ah : List Nat} {i : Nat} {rs : Rs} {fr : Fr} (h : At R ah i rs fr) : Enc R ah i rs fr := by
  have next : ∀ {blk : List D} {i : Nat} {d : D} {t : List D}, blk.drop i = d :: t → i ≤ blk.length → blk.drop (i + 1) = t ∧ i + 1 ≤ blk.length := fun {blk i d t} e l => by
    have h1 : i < blk.length := by
      have := congrArg List.length e
      simp at this
      omega
    refine ⟨?_, h1⟩
    have := congrArg (List.drop 1) e
    simpa [List.drop_drop] using this
  have step : ∀ {ah : List Nat} {i : Nat} {rs : Rs} {fr : Fr}, rs.isNil = false → Enc R ah i rs fr → Enc R ah (i + 1) rs.tl fr := fun {ah i rs fr} n e => by
    cases fr with
    | top =>
      obtain ⟨e1, e2, e3⟩ := e
      rw [Rs.ds_hd n] at e2
      exact ⟨e1, next e2 e3⟩
    | ifF ah2 i2 t up =>
      obtain ⟨w, a, b, j, g, blk, h1, h2, h3, h4, h5, h6⟩ := e
      rw [Rs.ds_hd n] at h5
      exact ⟨w, a, b, j, g, blk, h1, h2, h3, h4, next h5 h6⟩
    | loopF ah2 i2 w ws b t up =>
      obtain ⟨h2, h3, h5, h6⟩ := e
      rw [Rs.ds_hd n] at h5
      exact ⟨h2, h3, next h5 h6⟩
  induction h with
  | top => exact ⟨rfl, by simp, by simp⟩
  | put h ih => exact step rfl ih
  | say h ih => exact step rfl ih
  | ite h ih => exact step rfl ih
  | loop h ih => exact step rfl ih
  | ifA h ih => exact ⟨_, _, _, _, 0, _, rfl, rfl, h, .inl ⟨rfl, rfl⟩, by simp, by simp⟩
  | ifB h ih => exact ⟨_, _, _, _, 1, _, rfl, rfl, h, .inr ⟨rfl, rfl⟩, by simp, by simp⟩
  | body h ih => exact ⟨rfl, h, by simp, by simp⟩
end LW

/-! ways, in plain lists -/
namespace LW
open PySem PySem.Spec PyProof.Rows L2
/-- sums put into a sum, in plain lists: the fold, as numbers -/
def pIn (s : Sm) (bs : List Sm) : Sm := ((List.range bs.length).map fun j => dot s.1 (bs.map fun b => b.1[j]?.getD 0), s.2 + dot s.1 (bs.map (·.2)))
def opp (s : Sm) : Sm := (s.1.map fun n => -n, 1 - s.2)
/-- what a way holds -/
structure St' where
  truths : List Bool
  many : Nat
  boxes : List Sm
  words : List Sm
def St'.put (s : St') (b : Nat) (e : Sm) : St' := ⟨s.truths, s.many + 1, s.boxes.set b (pIn e s.boxes), s.words⟩
def St'.say (s : St') (w : Sm) : St' := ⟨s.truths, s.many + 1, s.boxes, s.words ++ [pIn w s.boxes]⟩
def St'.turn (s : St') (w : Sm) (h : Bool) : St' := ⟨s.truths ++ [h], s.many + 1, s.boxes, s.words ++ [if h then pIn w s.boxes else opp (pIn w s.boxes)]⟩
/-- a say or a loop that a way comes to -/
structure Arr where
  st : St'
  place : List Nat
  isLoop : Bool
  ws : List Sm
def ways : Rs → List Nat → Nat → St' → (St' → List Arr) → List Arr
  | .nil, _, _, st, k => k st
  | .put b s t, ah, i, st, k => ways t ah (i + 1) (st.put b s) k
  | .say w t, ah, i, st, k => ⟨st, ah ++ [i], false, [w]⟩ :: ways t ah (i + 1) (st.say w) k
  | .ite w a b t, ah, i, st, k => ways a (ah ++ [i, 0]) 0 (st.turn w true) (fun s => ways t ah (i + 1) s k) ++ ways b (ah ++ [i, 1]) 0 (st.turn w false) (fun s => ways t ah (i + 1) s k)
  | .loop _ ws _ _, ah, i, st, _ => [⟨st, ah ++ [i], true, ws⟩]
def Fr.k : Fr → St' → List Arr
  | .top => fun _ => []
  | .ifF ah i t up => fun st => ways t ah i st up.k
  | .loopF ah i _ ws _ _ _ => fun st => [⟨st, ah ++ [i], true, ws⟩]
def Pos'.ways (p : Pos') (st : St') : List Arr := LW.ways p.rs p.ah p.i st p.fr.k
def oways : Option Pos' → St' → List Arr
  | none, _ => []
  | some p, st => p.ways st
theorem norm_ways : ∀ (fr : Fr) (rs : Rs) (ah : List Nat) (i : Nat) (st : St'), oways (norm fr rs ah i) st = ways rs ah i st fr.k
  | .top, .nil, _, _, _ => rfl
  | .ifF ah i t up, .nil, _, _, st => by
    rw [norm, norm_ways up t ah i st]
    rfl
  | .loopF ah i w ws b t up, .nil, _, _, _ => rfl
  | fr, .put b s t, ah, i, st => by cases fr <;> rfl
  | fr, .say w t, ah, i, st => by cases fr <;> rfl
  | fr, .ite w a b t, ah, i, st => by cases fr <;> rfl
  | fr, .loop w ws b t, ah, i, st => by cases fr <;> rfl
/-- the two ways on from an if, or from a loop at which a round begins -/
def Pos'.go (p : Pos') (h : Bool) : Option Pos' := match p.rs with
  | .ite _ a b t => if h then norm (.ifF p.ah (p.i + 1) t p.fr) a (p.ah ++ [p.i, 0]) 0 else norm (.ifF p.ah (p.i + 1) t p.fr) b (p.ah ++ [p.i, 1]) 0
  | .loop w ws b t => if h then norm (.loopF p.ah p.i w ws b t p.fr) b (p.ah ++ [p.i, 0]) 0 else norm p.fr t p.ah (p.i + 1)
  | rs => norm p.fr rs.tl p.ah (p.i + 1)
/-- behind the row -/
def Pos'.next (p : Pos') : Option Pos' := norm p.fr p.rs.tl p.ah (p.i + 1)
/-- the ways one row further on, the first one last -/
def further (p : Pos') (st : St') : List (Option Pos' × St') := match p.rs with
  | .nil => []
  | .put b s _ => [(p.next, st.put b s)]
  | .say w _ => [(p.next, st.say w)]
  | .ite w _ _ _ => [(p.go false, st.turn w false), (p.go true, st.turn w true)]
  | .loop .. => []
def arrs (p : Pos') (st : St') : List Arr := match p.rs with
  | .say w _ => [⟨st, p.ah ++ [p.i], false, [w]⟩]
  | .loop _ ws _ _ => [⟨st, p.ah ++ [p.i], true, ws⟩]
  | _ => []
/-- the ways that are still ahead, the last one first -/
def pend (l : List (Option Pos' × St')) : List Arr := l.reverse.flatMap fun x => oways x.1 x.2
theorem pend_app (a b : List (Option Pos' × St')) : pend (a ++ b) = pend b ++ pend a := by simp [pend]
theorem ways_further (p : Pos') (st : St') (n : p.rs.isNil = false) : oways (some p) st = arrs p st ++ pend (further p st) := by
  obtain ⟨ah, i, rs, fr⟩ := p
  cases rs with
  | nil => cases n
  | put b s t =>
    show ways t ah (i + 1) (st.put b s) fr.k = _
    simp [arrs, further, pend, Pos'.next, Rs.tl, norm_ways]
  | say w t =>
    show (⟨st, ah ++ [i], false, [w]⟩ : Arr) :: ways t ah (i + 1) (st.say w) fr.k = _
    simp [arrs, further, pend, Pos'.next, Rs.tl, norm_ways]
  | ite w a b t =>
    show ways a (ah ++ [i, 0]) 0 (st.turn w true) (fun s => ways t ah (i + 1) s fr.k) ++ ways b (ah ++ [i, 1]) 0 (st.turn w false) (fun s => ways t ah (i + 1) s fr.k) = _
    simp [arrs, further, pend, Pos'.go, norm_ways, Fr.k]
  | loop w ws b t =>
    show [(⟨st, ah ++ [i], true, ws⟩ : Arr)] = _
    simp [arrs, further, pend]
/-- how many turns a walk takes -/
def wt : Rs → Nat → Nat
  | .nil, k => k
  | .put _ _ t, k => 1 + wt t k
  | .say _ t, k => 1 + wt t k
  | .ite _ a b t, k => 1 + wt a (wt t k) + wt b (wt t k)
  | .loop .., _ => 1
def Fr.wt : Fr → Nat
  | .top => 0
  | .ifF _ _ t up => LW.wt t up.wt
  | .loopF .. => 1
def owt : Option Pos' → Nat
  | none => 0
  | some p => wt p.rs p.fr.wt
theorem norm_wt : ∀ (fr : Fr) (rs : Rs) (ah : List Nat) (i : Nat), owt (norm fr rs ah i) = wt rs fr.wt
  | .top, .nil, _, _ => rfl
  | .ifF ah i t up, .nil, _, _ => by
    rw [norm, norm_wt up t ah i]
    rfl
  | .loopF ah i w ws b t up, .nil, _, _ => rfl
  | fr, .put b s t, ah, i => by cases fr <;> rfl
  | fr, .say w t, ah, i => by cases fr <;> rfl
  | fr, .ite w a b t, ah, i => by cases fr <;> rfl
  | fr, .loop w ws b t, ah, i => by cases fr <;> rfl
theorem wt_further (p : Pos') (st : St') (n : p.rs.isNil = false) : ((further p st).map fun x => owt x.1).sum + 1 = owt (some p) := by
  obtain ⟨ah, i, rs, fr⟩ := p
  cases rs with
  | nil => cases n
  | put b s t =>
    show _ = 1 + wt t fr.wt
    simp [further, Pos'.next, Rs.tl, norm_wt]
    omega
  | say w t =>
    show _ = 1 + wt t fr.wt
    simp [further, Pos'.next, Rs.tl, norm_wt]
    omega
  | ite w a b t =>
    show _ = 1 + wt a (wt t fr.wt) + wt b (wt t fr.wt)
    simp [further, Pos'.go, norm_wt, Fr.wt]
    omega
  | loop w ws b t =>
    show _ = 1
    simp [further]
theorem wt_le : ∀ (rs : Rs) (k : Nat), wt rs k + 1 ≤ 2 ^ rs.num * (k + 1)
  | .nil, k => by simp [wt, Rs.num]
  | .put b s t, k => by
    have ih := wt_le t k
    have : 1 ≤ 2 ^ t.num * (k + 1) := Nat.le_trans (Nat.le_add_left ..) ih
    simp only [wt, Rs.num, Nat.pow_succ]
    rw [Nat.mul_right_comm]
    omega
  | .say w t, k => by
    have ih := wt_le t k
    have : 1 ≤ 2 ^ t.num * (k + 1) := Nat.le_trans (Nat.le_add_left ..) ih
    simp only [wt, Rs.num, Nat.pow_succ]
    rw [Nat.mul_right_comm]
    omega
  | .ite w a b t, k => by
    have it := wt_le t k
    have ia := wt_le a (wt t k)
    have ib := wt_le b (wt t k)
    have pa : 2 ^ a.num ≤ 2 ^ (a.num + b.num) := Nat.pow_le_pow_right (by decide) (by omega)
    have pb : 2 ^ b.num ≤ 2 ^ (a.num + b.num) := Nat.pow_le_pow_right (by decide) (by omega)
    have la := Nat.mul_le_mul pa it
    have lb := Nat.mul_le_mul pb it
    have ha : 2 ^ a.num * (wt t k + 1) ≤ 2 ^ (a.num + b.num) * (2 ^ t.num * (k + 1)) := la
    have hb : 2 ^ b.num * (wt t k + 1) ≤ 2 ^ (a.num + b.num) * (2 ^ t.num * (k + 1)) := lb
    have e : 2 ^ (a.num + b.num + t.num + 1) * (k + 1) = 2 ^ (a.num + b.num) * (2 ^ t.num * (k + 1)) + 2 ^ (a.num + b.num) * (2 ^ t.num * (k + 1)) := by
      rw [Nat.pow_succ, Nat.pow_add 2 (a.num + b.num) t.num, Nat.mul_assoc, Nat.mul_assoc, ← Nat.mul_add, ← Nat.mul_add]
      congr 2
      omega
    simp only [wt, Rs.num]
    rw [e]
    omega
  | .loop w ws b t, k => by
    have h : 2 ≤ 2 ^ (b.num + t.num + 1) := by
      have := Nat.pow_le_pow_right (n := 2) (by decide) (show 1 ≤ b.num + t.num + 1 by omega)
      simpa using this
    have := Nat.mul_le_mul h (Nat.le_add_left 1 k)
    simp only [wt, Rs.num]
    omega
theorem frwt_le : ∀ (fr : Fr), fr.wt + 1 ≤ 2 ^ fr.num
  | .top => by simp [Fr.wt, Fr.num]
  | .ifF ah i t up => by
    have ih := frwt_le up
    have it := wt_le t up.wt
    simp only [Fr.wt, Fr.num, Nat.pow_add]
    exact Nat.le_trans it (Nat.mul_le_mul (Nat.le_refl _) ih)
  | .loopF .. => by simp [Fr.wt, Fr.num]
theorem At.wt {R : Rs} {ah : List Nat} {i : Nat} {rs : Rs} {fr : Fr} (h : At R ah i rs fr) : LW.wt rs fr.wt + 1 ≤ 2 ^ R.num := by
  have h1 := wt_le rs fr.wt
  have h2 := frwt_le fr
  have h3 := h.num
  have h4 := Nat.mul_le_mul (Nat.le_refl (2 ^ rs.num)) h2
  rw [← Nat.pow_add] at h4
  have h5 := Nat.pow_le_pow_right (n := 2) (by decide) h3
  omega
/-! ### all loops, and their ways -/
def loopsP : Rs → List Nat → Nat → Fr → List Pos'
  | .nil, _, _, _ => []
  | .put _ _ t, ah, i, fr => loopsP t ah (i + 1) fr
  | .say _ t, ah, i, fr => loopsP t ah (i + 1) fr
  | .ite _ a b t, ah, i, fr => loopsP a (ah ++ [i, 0]) 0 (.ifF ah (i + 1) t fr) ++ loopsP b (ah ++ [i, 1]) 0 (.ifF ah (i + 1) t fr) ++ loopsP t ah (i + 1) fr
  | .loop w ws b t, ah, i, fr => ⟨ah, i, .loop w ws b t, fr⟩ :: (loopsP b (ah ++ [i, 0]) 0 (.loopF ah i w ws b t fr) ++ loopsP t ah (i + 1) fr)
theorem loopsP_at {R : Rs} : ∀ {rs : Rs} {ah : List Nat} {i : Nat} {fr : Fr}, At R ah i rs fr → ∀ p ∈ loopsP rs ah i fr, At R p.ah p.i p.rs p.fr ∧ ∃ w ws b t, p.rs = .loop w ws b t
  | .nil, _, _, _, _, p, hp => by cases hp
  | .put .., _, _, _, h, p, hp => loopsP_at h.put p hp
  | .say .., _, _, _, h, p, hp => loopsP_at h.say p hp
  | .ite .., _, _, _, h, p, hp => by
    rcases List.mem_append.mp hp with hp | hp
    · rcases List.mem_append.mp hp with hp | hp
      · exact loopsP_at h.ifA p hp
      · exact loopsP_at h.ifB p hp
    · exact loopsP_at h.ite p hp
  | .loop .., _, _, _, h, p, hp => by
    rcases List.mem_cons.mp hp with e | hp
    · subst e
      exact ⟨h, _, _, _, _, rfl⟩
    · rcases List.mem_append.mp hp with hp | hp
      · exact loopsP_at h.body p hp
      · exact loopsP_at h.loop p hp
theorem loopsP_len : ∀ (rs : Rs) (ah : List Nat) (i : Nat) (fr : Fr), (loopsP rs ah i fr).length ≤ rs.num
  | .nil, _, _, _ => Nat.le_refl _
  | .put _ _ t, ah, i, fr => by have := loopsP_len t ah (i + 1) fr; simp only [loopsP, Rs.num]; omega
  | .say _ t, ah, i, fr => by have := loopsP_len t ah (i + 1) fr; simp only [loopsP, Rs.num]; omega
  | .ite w a b t, ah, i, fr => by
    have h1 := loopsP_len a (ah ++ [i, 0]) 0 (.ifF ah (i + 1) t fr)
    have h2 := loopsP_len b (ah ++ [i, 1]) 0 (.ifF ah (i + 1) t fr)
    have h3 := loopsP_len t ah (i + 1) fr
    simp only [loopsP, Rs.num, List.length_append]
    omega
  | .loop w ws b t, ah, i, fr => by
    have h2 := loopsP_len b (ah ++ [i, 0]) 0 (.loopF ah i w ws b t fr)
    have h3 := loopsP_len t ah (i + 1) fr
    simp only [loopsP, Rs.num, List.length_cons, List.length_append]
    omega
/-- the most rows that are still done -/
def mx : Rs → Nat → Nat
  | .nil, k => k
  | .put _ _ t, k => 1 + mx t k
  | .say _ t, k => 1 + mx t k
  | .ite _ a b t, k => 1 + max (mx a (mx t k)) (mx b (mx t k))
  | .loop .., _ => 1
def Fr.mx : Fr → Nat
  | .top => 0
  | .ifF _ _ t up => LW.mx t up.mx
  | .loopF .. => 1
def omx : Option Pos' → Nat
  | none => 0
  | some p => mx p.rs p.fr.mx
theorem norm_mx : ∀ (fr : Fr) (rs : Rs) (ah : List Nat) (i : Nat), omx (norm fr rs ah i) = mx rs fr.mx
  | .top, .nil, _, _ => rfl
  | .ifF ah i t up, .nil, _, _ => by
    rw [norm, norm_mx up t ah i]
    rfl
  | .loopF ah i w ws b t up, .nil, _, _ => rfl
  | fr, .put b s t, ah, i => by cases fr <;> rfl
  | fr, .say w t, ah, i => by cases fr <;> rfl
  | fr, .ite w a b t, ah, i => by cases fr <;> rfl
  | fr, .loop w ws b t, ah, i => by cases fr <;> rfl
theorem mx_le : ∀ (rs : Rs) (k : Nat), mx rs k ≤ rs.num + k
  | .nil, k => by simp [mx, Rs.num]
  | .put b s t, k => by have := mx_le t k; simp only [mx, Rs.num]; omega
  | .say w t, k => by have := mx_le t k; simp only [mx, Rs.num]; omega
  | .ite w a b t, k => by
    have := mx_le t k
    have := mx_le a (mx t k)
    have := mx_le b (mx t k)
    simp only [mx, Rs.num]
    omega
  | .loop .., k => by simp only [mx, Rs.num]; omega
theorem frmx_le : ∀ (fr : Fr), fr.mx ≤ fr.num
  | .top => by simp [Fr.mx, Fr.num]
  | .ifF ah i t up => by
    have := frmx_le up
    have := mx_le t up.mx
    simp only [Fr.mx, Fr.num]
    omega
  | .loopF .. => by simp [Fr.mx, Fr.num]
theorem At.mx {R : Rs} {ah : List Nat} {i : Nat} {rs : Rs} {fr : Fr} (h : At R ah i rs fr) : LW.mx rs fr.mx ≤ R.num := by
  have h1 := mx_le rs fr.mx
  have h2 := frmx_le fr
  have h3 := h.num
  omega
/-- sums over n boxes, their numbers below 2 to the w -/
def GoodB (n w : Nat) (bs : List Sm) : Prop := ∀ b ∈ bs, b.1.length = n ∧ Wd w b.2 ∧ ∀ x ∈ b.1, Wd w x
theorem GoodB.mono {n w w' : Nat} {bs : List Sm} (h : GoodB n w bs) (l : w ≤ w') : GoodB n w' bs := fun b hb => ⟨(h b hb).1, (h b hb).2.1.mono l, fun x hx => ((h b hb).2.2 x hx).mono l⟩
theorem pIn_good {n w v : Nat} {s : Sm} {bs : List Sm} (hb : GoodB n w bs) (ln : bs.length = n) (n3 : n ≤ 3) (hs : ∀ x ∈ s.1, Wd v x) (hl : s.1.length = n) (hs2 : Wd (v + w + 4) s.2) : (pIn s bs).1.length = n ∧ Wd (v + w + 5) (pIn s bs).2 ∧ ∀ x ∈ (pIn s bs).1, Wd (v + w + 5) x := by
  have d : ∀ (f : Sm → Int), (∀ b ∈ bs, Wd w (f b)) → Wd (v + w + 3) (dot s.1 (bs.map f)) := fun f hf => by
    refine (dotWd hs (fun y hy => ?_)).mono (show v + w + s.1.length ≤ v + w + 3 by omega)
    obtain ⟨b, hb', rfl⟩ := List.mem_map.mp hy
    exact hf b hb'
  refine ⟨by simp [pIn, ln], ?_, fun x hx => ?_⟩
  · exact Wd.add (n := v + w + 4) hs2 ((d _ fun b hb' => (hb b hb').2.1).mono (by omega))
  · obtain ⟨j, _, rfl⟩ := List.mem_map.mp hx
    refine (d _ fun b hb' => ?_).mono (by omega)
    cases e : b.1[j]? with
    | none =>
      show Wd w 0
      show (0 : Int).natAbs < 2 ^ w
      exact Nat.two_pow_pos w
    | some y => exact (hb b hb').2.2 y (List.mem_of_getElem? e)
theorem opp_good {n w : Nat} {s : Sm} (h : s.1.length = n ∧ Wd w s.2 ∧ ∀ x ∈ s.1, Wd w x) : (opp s).1.length = n ∧ Wd (w + 1) (opp s).2 ∧ ∀ x ∈ (opp s).1, Wd (w + 1) x := by
  refine ⟨by simp [opp, h.1], ?_, fun x hx => ?_⟩
  · have := h.2.1
    unfold Wd at this ⊢
    simp only [opp]
    rw [Nat.pow_succ]
    have : 1 ≤ 2 ^ w := Nat.two_pow_pos w
    omega
  · obtain ⟨y, hy, rfl⟩ := List.mem_map.mp hx
    have := h.2.2 y hy
    unfold Wd at this ⊢
    rw [Nat.pow_succ]
    omega
/-- the state of a way: n boxes, at most 14 rows -/
def GoodSt (n : Nat) (left : Nat) (st : St') : Prop := st.many + left ≤ 14 ∧ st.boxes.length = n ∧ GoodB n (20 * (st.many + 1)) st.boxes ∧ GoodB n (20 * (st.many + 1)) st.words ∧ st.words.length ≤ 3 + st.many ∧ st.truths.length ≤ st.many
theorem wdSm {i : Int} (h1 : -200 ≤ i) (h2 : i ≤ 200) : Wd 8 i := by
  show i.natAbs < 2 ^ 8
  omega
theorem sumW_wd {many : Nat} {s : Sm} (h : SumW many s) : s.1.length = many ∧ Wd 8 s.2 ∧ ∀ x ∈ s.1, Wd 8 x := by
  obtain ⟨h1, h2, h3, h4⟩ := h
  exact ⟨h1, wdSm (by omega) (by omega), fun x hx => wdSm (by have := h2 x hx; omega) (by have := h2 x hx; omega)⟩
theorem pIn_step {n w : Nat} {s : Sm} {bs : List Sm} (hb : GoodB n w bs) (ln : bs.length = n) (n3 : n ≤ 3) (hs : s.1.length = n ∧ Wd 9 s.2 ∧ ∀ x ∈ s.1, Wd 9 x) : (pIn s bs).1.length = n ∧ Wd (w + 14) (pIn s bs).2 ∧ ∀ x ∈ (pIn s bs).1, Wd (w + 14) x := by
  obtain ⟨h1, h2, h3⟩ := pIn_good (v := 9) hb ln n3 hs.2.2 hs.1 (hs.2.1.mono (by omega))
  exact ⟨h1, h2.mono (by omega), fun x hx => (h3 x hx).mono (by omega)⟩
theorem good3 {n w w' : Nat} {s : Sm} (h : s.1.length = n ∧ Wd w s.2 ∧ ∀ x ∈ s.1, Wd w x) (l : w ≤ w') : s.1.length = n ∧ Wd w' s.2 ∧ ∀ x ∈ s.1, Wd w' x := ⟨h.1, h.2.1.mono l, fun x hx => (h.2.2 x hx).mono l⟩
theorem goodSnoc {n w : Nat} {bs : List Sm} {s : Sm} (h : GoodB n w bs) (hs : s.1.length = n ∧ Wd w s.2 ∧ ∀ x ∈ s.1, Wd w x) : GoodB n w (bs ++ [s]) := fun b hb => by
  rcases List.mem_append.mp hb with hb | hb
  · exact h b hb
  · rw [List.mem_singleton.mp hb]
    exact hs
theorem GoodSt.put {n left : Nat} {st : St'} {b : Nat} {s : Sm} (h : GoodSt n (left + 1) st) (n3 : n ≤ 3) (hs : SumW n s) : GoodSt n left (st.put b s) := by
  obtain ⟨h1, h2, h3, h4, h5, h6⟩ := h
  refine ⟨by simp only [St'.put]; omega, by simp [St'.put, h2], ?_, h4.mono (by simp only [St'.put]; omega), by simp only [St'.put]; omega, by simp only [St'.put]; omega⟩
  intro x hx
  simp only [St'.put] at hx ⊢
  rcases List.mem_or_eq_of_mem_set hx with hx | e
  · exact good3 (h3 x hx) (by omega)
  · subst e
    exact good3 (pIn_step h3 h2 n3 (good3 (sumW_wd hs) (by omega))) (by omega)
theorem GoodSt.say {n left : Nat} {st : St'} {w : Sm} (h : GoodSt n (left + 1) st) (n3 : n ≤ 3) (hs : SumW n w) : GoodSt n left (st.say w) := by
  obtain ⟨h1, h2, h3, h4, h5, h6⟩ := h
  refine ⟨by simp only [St'.say]; omega, h2, h3.mono (by simp only [St'.say]; omega), ?_, by simp only [St'.say, List.length_append, List.length_singleton]; omega, by simp only [St'.say]; omega⟩
  exact goodSnoc (h4.mono (by simp only [St'.say]; omega)) (good3 (pIn_step h3 h2 n3 (good3 (sumW_wd hs) (by omega))) (by simp only [St'.say]; omega))
theorem GoodSt.turn {n left : Nat} {st : St'} {w : Sm} {t : Bool} (h : GoodSt n (left + 1) st) (n3 : n ≤ 3) (hs : SumW n w) : GoodSt n left (st.turn w t) := by
  obtain ⟨h1, h2, h3, h4, h5, h6⟩ := h
  have p := pIn_step h3 h2 n3 (good3 (sumW_wd hs) (show 8 ≤ 9 by omega))
  refine ⟨by simp only [St'.turn]; omega, h2, h3.mono (by simp only [St'.turn]; omega), ?_, by simp only [St'.turn, List.length_append, List.length_singleton]; omega, by simp only [St'.turn, List.length_append, List.length_singleton]; omega⟩
  refine goodSnoc (h4.mono (by simp only [St'.turn]; omega)) ?_
  cases t with
  | true => exact good3 p (by simp only [St'.turn]; omega)
  | false => exact good3 (opp_good p) (by simp only [St'.turn]; omega)
theorem GoodSt.less {n l l' : Nat} {st : St'} (h : GoodSt n l st) (hl : l' ≤ l) : GoodSt n l' st := ⟨by have := h.1; omega, h.2⟩
end LW

/-! the rows as single deeds, in plain lists -/
namespace LW
open PySem PySem.Spec PyProof.Rows L2
inductive De where
  | row (p : Pos')
  | br (p : Pos') (to : Nat)
  | jump (pl : List Nat) (to : Nat)
def clen : Rs → Nat
  | .nil => 0
  | .put _ _ t => 1 + clen t
  | .say _ t => 1 + clen t
  | .ite _ a b t => 2 + clen a + clen b + clen t
  | .loop _ _ b t => 2 + clen b + clen t
def codeR : Rs → List Nat → Nat → Fr → Nat → List De
  | .nil, _, _, _, _ => []
  | .put b s t, ah, i, fr, n => .row ⟨ah, i, .put b s t, fr⟩ :: codeR t ah (i + 1) fr (n + 1)
  | .say w t, ah, i, fr, n => .row ⟨ah, i, .say w t, fr⟩ :: codeR t ah (i + 1) fr (n + 1)
  | .ite w a b t, ah, i, fr, n => .br ⟨ah, i, .ite w a b t, fr⟩ (n + 2 + clen a) :: (codeR a (ah ++ [i, 0]) 0 (.ifF ah (i + 1) t fr) (n + 1) ++ .jump (ah ++ [i]) (n + 2 + clen a + clen b) :: (codeR b (ah ++ [i, 1]) 0 (.ifF ah (i + 1) t fr) (n + 2 + clen a) ++ codeR t ah (i + 1) fr (n + 2 + clen a + clen b)))
  | .loop w ws b t, ah, i, fr, n => .br ⟨ah, i, .loop w ws b t, fr⟩ (n + 2 + clen b) :: (codeR b (ah ++ [i, 0]) 0 (.loopF ah i w ws b t fr) (n + 1) ++ .jump (ah ++ [i]) n :: codeR t ah (i + 1) fr (n + 2 + clen b))
theorem codeR_len : ∀ (rs : Rs) (ah : List Nat) (i : Nat) (fr : Fr) (n : Nat), (codeR rs ah i fr n).length = clen rs
  | .nil, _, _, _, _ => rfl
  | .put b s t, ah, i, fr, n => by simp [codeR, clen, codeR_len t]; omega
  | .say w t, ah, i, fr, n => by simp [codeR, clen, codeR_len t]; omega
  | .ite w a b t, ah, i, fr, n => by simp [codeR, clen, codeR_len a, codeR_len b, codeR_len t]; omega
  | .loop w ws b t, ah, i, fr, n => by simp [codeR, clen, codeR_len b, codeR_len t]; omega
theorem clen_le : ∀ rs : Rs, clen rs ≤ 2 * rs.num
  | .nil => Nat.le_refl _
  | .put _ _ t => by have := clen_le t; simp only [clen, Rs.num]; omega
  | .say _ t => by have := clen_le t; simp only [clen, Rs.num]; omega
  | .ite _ a b t => by have := clen_le t; have := clen_le a; have := clen_le b; simp only [clen, Rs.num]; omega
  | .loop _ _ b t => by have := clen_le t; have := clen_le b; simp only [clen, Rs.num]; omega
/-- where a block's rest begins among the deeds -/
inductive AtC (R : Rs) : List Nat → Nat → Rs → Fr → Nat → Prop
  | top : AtC R [] 0 R .top 0
  | put {ah i b s t fr j} (h : AtC R ah i (.put b s t) fr j) : AtC R ah (i + 1) t fr (j + 1)
  | say {ah i w t fr j} (h : AtC R ah i (.say w t) fr j) : AtC R ah (i + 1) t fr (j + 1)
  | ite {ah i w a b t fr j} (h : AtC R ah i (.ite w a b t) fr j) : AtC R ah (i + 1) t fr (j + 2 + clen a + clen b)
  | loop {ah i w ws b t fr j} (h : AtC R ah i (.loop w ws b t) fr j) : AtC R ah (i + 1) t fr (j + 2 + clen b)
  | ifA {ah i w a b t fr j} (h : AtC R ah i (.ite w a b t) fr j) : AtC R (ah ++ [i, 0]) 0 a (.ifF ah (i + 1) t fr) (j + 1)
  | ifB {ah i w a b t fr j} (h : AtC R ah i (.ite w a b t) fr j) : AtC R (ah ++ [i, 1]) 0 b (.ifF ah (i + 1) t fr) (j + 2 + clen a)
  | body {ah i w ws b t fr j} (h : AtC R ah i (.loop w ws b t) fr j) : AtC R (ah ++ [i, 0]) 0 b (.loopF ah i w ws b t fr) (j + 1)
theorem AtC.at_ {R : Rs} {ah : List Nat} {i : Nat} {rs : Rs} {fr : Fr} {j : Nat} (h : AtC R ah i rs fr j) : At R ah i rs fr := by
  induction h with
  | top => exact .top
  | put h ih => exact ih.put
  | say h ih => exact ih.say
  | ite h ih => exact ih.ite
  | loop h ih => exact ih.loop
  | ifA h ih => exact ih.ifA
  | ifB h ih => exact ih.ifB
  | body h ih => exact ih.body
def EndC (R : Rs) : Fr → Nat → List De → Prop
  | .top, _, rest => rest = []
  | .ifF ah i t up, e, rest => (∃ pl e2 r, rest = .jump pl e2 :: r ∧ AtC R ah i t up e2) ∨ AtC R ah i t up e
  | .loopF ah i w ws b t up, _, rest => ∃ pl e2 r, rest = .jump pl e2 :: r ∧ AtC R ah i (.loop w ws b t) up e2
def codeOf (R : Rs) : List De := codeR R [] 0 .top 0
theorem AtC.split {R : Rs} {ah : List Nat} {i : Nat} {rs : Rs} {fr : Fr} {j : Nat} (h : AtC R ah i rs fr j) : ∃ front rest, codeOf R = front ++ (codeR rs ah i fr j ++ rest) ∧ front.length = j ∧ EndC R fr (j + clen rs) rest := by
  induction h with
  | top => exact ⟨[], [], by simp [codeOf], rfl, rfl⟩
  | @put ah i b s t fr j h ih =>
    obtain ⟨f, r, e, l, en⟩ := ih
    refine ⟨f ++ [.row ⟨ah, i, .put b s t, fr⟩], r, by rw [e]; simp [codeR], by simp [l], ?_⟩
    rw [show j + 1 + clen t = j + clen (.put b s t) by simp only [clen]; omega]
    exact en
  | @say ah i w t fr j h ih =>
    obtain ⟨f, r, e, l, en⟩ := ih
    refine ⟨f ++ [.row ⟨ah, i, .say w t, fr⟩], r, by rw [e]; simp [codeR], by simp [l], ?_⟩
    rw [show j + 1 + clen t = j + clen (.say w t) by simp only [clen]; omega]
    exact en
  | @ite ah i w a b t fr j h ih =>
    obtain ⟨f, r, e, l, en⟩ := ih
    refine ⟨f ++ (.br ⟨ah, i, .ite w a b t, fr⟩ (j + 2 + clen a) :: (codeR a (ah ++ [i, 0]) 0 (.ifF ah (i + 1) t fr) (j + 1) ++ .jump (ah ++ [i]) (j + 2 + clen a + clen b) :: codeR b (ah ++ [i, 1]) 0 (.ifF ah (i + 1) t fr) (j + 2 + clen a))), r, by rw [e]; simp [codeR], by simp [l, codeR_len]; omega, ?_⟩
    rw [show j + 2 + clen a + clen b + clen t = j + clen (.ite w a b t) by simp only [clen]; omega]
    exact en
  | @loop ah i w ws b t fr j h ih =>
    obtain ⟨f, r, e, l, en⟩ := ih
    refine ⟨f ++ (.br ⟨ah, i, .loop w ws b t, fr⟩ (j + 2 + clen b) :: (codeR b (ah ++ [i, 0]) 0 (.loopF ah i w ws b t fr) (j + 1) ++ [.jump (ah ++ [i]) j])), r, by rw [e]; simp [codeR], by simp [l, codeR_len]; omega, ?_⟩
    rw [show j + 2 + clen b + clen t = j + clen (.loop w ws b t) by simp only [clen]; omega]
    exact en
  | @ifA ah i w a b t fr j h ih =>
    obtain ⟨f, r, e, l, en⟩ := ih
    exact ⟨f ++ [.br ⟨ah, i, .ite w a b t, fr⟩ (j + 2 + clen a)], .jump (ah ++ [i]) (j + 2 + clen a + clen b) :: (codeR b (ah ++ [i, 1]) 0 (.ifF ah (i + 1) t fr) (j + 2 + clen a) ++ (codeR t ah (i + 1) fr (j + 2 + clen a + clen b) ++ r)), by rw [e]; simp [codeR], by simp [l], .inl ⟨_, _, _, rfl, h.ite⟩⟩
  | @ifB ah i w a b t fr j h ih =>
    obtain ⟨f, r, e, l, en⟩ := ih
    exact ⟨f ++ (.br ⟨ah, i, .ite w a b t, fr⟩ (j + 2 + clen a) :: (codeR a (ah ++ [i, 0]) 0 (.ifF ah (i + 1) t fr) (j + 1) ++ [.jump (ah ++ [i]) (j + 2 + clen a + clen b)])), codeR t ah (i + 1) fr (j + 2 + clen a + clen b) ++ r, by rw [e]; simp [codeR], by simp [l, codeR_len]; omega, .inr h.ite⟩
  | @body ah i w ws b t fr j h ih =>
    obtain ⟨f, r, e, l, en⟩ := ih
    exact ⟨f ++ [.br ⟨ah, i, .loop w ws b t, fr⟩ (j + 2 + clen b)], .jump (ah ++ [i]) j :: (codeR t ah (i + 1) fr (j + 2 + clen b) ++ r), by rw [e]; simp [codeR], by simp [l], _, _, _, rfl, h⟩
def frD : Fr → Nat
  | .top => 0
  | .ifF _ _ _ up => frD up + 1
  | .loopF _ _ _ _ _ _ up => frD up + 1
/-- the deed at a row -/
def deAt (p : Pos') (j : Nat) : De := match p.rs with
  | .ite _ a _ _ => .br p (j + 2 + clen a)
  | .loop _ _ b _ => .br p (j + 2 + clen b)
  | _ => .row p
theorem code_hd {rs : Rs} (n : rs.isNil = false) (ah : List Nat) (i : Nat) (fr : Fr) (j : Nat) : ∃ r, codeR rs ah i fr j = deAt ⟨ah, i, rs, fr⟩ j :: r := by
  cases rs with
  | nil => cases n
  | _ => exact ⟨_, rfl⟩
theorem norm_some {fr : Fr} {rs : Rs} {ah : List Nat} {i : Nat} (n : rs.isNil = false) : norm fr rs ah i = some ⟨ah, i, rs, fr⟩ := by
  cases rs with
  | nil => cases n
  | _ => cases fr <;> rfl
theorem codeLook {R : Rs} : ∀ {fr : Fr} {ah : List Nat} {i : Nat} {rs : Rs} {j : Nat}, AtC R ah i rs fr j →
    (∃ p : Pos', norm fr rs ah i = some p ∧ AtC R p.ah p.i p.rs p.fr j ∧ p.rs.isNil = false ∧ (codeOf R)[j]? = some (deAt p j)) ∨
    (norm fr rs ah i = none ∧ j = (codeOf R).length) ∨
    ∃ (pl : List Nat) (e : Nat) (ah' : List Nat) (i' : Nat) (rs' : Rs) (fr' : Fr), (codeOf R)[j]? = some (.jump pl e) ∧ AtC R ah' i' rs' fr' e ∧ norm fr' rs' ah' i' = norm fr rs ah i ∧ frD fr' < frD fr := by
  intro fr
  induction fr with
  | top =>
    intro ah i rs j h
    cases e : rs.isNil with
    | false =>
      obtain ⟨f, r, ec, l, en⟩ := h.split
      obtain ⟨t, et⟩ := code_hd e ah i .top j
      exact .inl ⟨⟨ah, i, rs, .top⟩, norm_some e, h, e, by rw [ec, et, ← l]; simp⟩
    | true =>
      obtain ⟨f, r, ec, l, en⟩ := h.split
      cases rs with
      | nil =>
        have en : r = [] := en
        refine .inr (.inl ⟨rfl, ?_⟩)
        rw [ec, en]
        simp [codeR, l]
      | _ => cases e
  | ifF ah2 i2 t up ihu =>
    intro ah i rs j h
    cases e : rs.isNil with
    | false =>
      obtain ⟨f, r, ec, l, en⟩ := h.split
      obtain ⟨t2, et⟩ := code_hd e ah i (.ifF ah2 i2 t up) j
      exact .inl ⟨⟨ah, i, rs, _⟩, norm_some e, h, e, by rw [ec, et, ← l]; simp⟩
    | true =>
      obtain ⟨f, r, ec, l, en⟩ := h.split
      cases rs with
      | nil =>
        rcases en with ⟨pl, e2, r2, er, h2⟩ | h2
        · refine .inr (.inr ⟨pl, e2, ah2, i2, t, up, ?_, h2, rfl, Nat.lt_succ_self _⟩)
          rw [ec, er, ← l]
          simp [codeR]
        · have h2 : AtC R ah2 i2 t up j := h2
          rcases ihu h2 with ⟨p, h3⟩ | h3 | ⟨pl, e2, ah', i', rs', fr', h3, h4, h5, h6⟩
          · exact .inl ⟨p, h3⟩
          · exact .inr (.inl h3)
          · exact .inr (.inr ⟨pl, e2, ah', i', rs', fr', h3, h4, h5, Nat.lt_trans h6 (Nat.lt_succ_self _)⟩)
      | _ => cases e
  | loopF ah2 i2 w ws b t up ihu =>
    intro ah i rs j h
    cases e : rs.isNil with
    | false =>
      obtain ⟨f, r, ec, l, en⟩ := h.split
      obtain ⟨t2, et⟩ := code_hd e ah i (.loopF ah2 i2 w ws b t up) j
      exact .inl ⟨⟨ah, i, rs, _⟩, norm_some e, h, e, by rw [ec, et, ← l]; simp⟩
    | true =>
      obtain ⟨f, r, ec, l, en⟩ := h.split
      cases rs with
      | nil =>
        obtain ⟨pl, e2, r2, er, h2⟩ := en
        refine .inr (.inr ⟨pl, e2, ah2, i2, _, up, ?_, h2, ?_, Nat.lt_succ_self _⟩)
        · rw [ec, er, ← l]
          simp [codeR]
        · rw [norm_some rfl]
          rfl
      | _ => cases e
/-- the loops, in the order of the deeds -/
def loopD : De → List Pos'
  | .br p _ => match p.rs with
    | .loop .. => [p]
    | _ => []
  | _ => []
theorem loopsD : ∀ (rs : Rs) (ah : List Nat) (i : Nat) (fr : Fr) (n : Nat), (codeR rs ah i fr n).flatMap loopD = loopsP rs ah i fr
  | .nil, _, _, _, _ => rfl
  | .put b s t, ah, i, fr, n => by simp [codeR, loopsP, loopD, loopsD t]
  | .say w t, ah, i, fr, n => by simp [codeR, loopsP, loopD, loopsD t]
  | .ite w a b t, ah, i, fr, n => by simp [codeR, loopsP, loopD, loopsD a, loopsD b, loopsD t]
  | .loop w ws b t, ah, i, fr, n => by simp [codeR, loopsP, loopD, loopsD b, loopsD t]
/-- each deed of a row stands where it says -/
theorem codeAt {R : Rs} : ∀ {rs : Rs} {ah : List Nat} {i : Nat} {fr : Fr} {n : Nat}, AtC R ah i rs fr n → ∀ (k : Nat) (d : De), (codeR rs ah i fr n)[k]? = some d → (∃ pl to, d = .jump pl to) ∨ ∃ p : Pos', AtC R p.ah p.i p.rs p.fr (n + k) ∧ p.rs.isNil = false ∧ d = deAt p (n + k)
  | .nil, _, _, _, _, _, k, d, e => by simp [codeR] at e
  | .put b s t, ah, i, fr, n, h, k, d, e => by
    cases k with
    | zero => cases e; exact .inr ⟨⟨ah, i, .put b s t, fr⟩, h, rfl, rfl⟩
    | succ k =>
      have := codeAt h.put k d (by simpa [codeR] using e)
      rwa [show n + 1 + k = n + (k + 1) by omega] at this
  | .say w t, ah, i, fr, n, h, k, d, e => by
    cases k with
    | zero => cases e; exact .inr ⟨⟨ah, i, .say w t, fr⟩, h, rfl, rfl⟩
    | succ k =>
      have := codeAt h.say k d (by simpa [codeR] using e)
      rwa [show n + 1 + k = n + (k + 1) by omega] at this
  | .ite w a b t, ah, i, fr, n, h, k, d, e => by
    cases k with
    | zero => cases e; exact .inr ⟨⟨ah, i, .ite w a b t, fr⟩, h, rfl, rfl⟩
    | succ k =>
      have e : (codeR a (ah ++ [i, 0]) 0 (.ifF ah (i + 1) t fr) (n + 1) ++ De.jump (ah ++ [i]) (n + 2 + clen a + clen b) :: (codeR b (ah ++ [i, 1]) 0 (.ifF ah (i + 1) t fr) (n + 2 + clen a) ++ codeR t ah (i + 1) fr (n + 2 + clen a + clen b)))[k]? = some d := by simpa [codeR] using e
      by_cases c : k < clen a
      · rw [List.getElem?_append_left (by rw [codeR_len]; exact c)] at e
        have := codeAt h.ifA k d e
        rwa [show n + 1 + k = n + (k + 1) by omega] at this
      · rw [List.getElem?_append_right (by rw [codeR_len]; omega), codeR_len] at e
        obtain ⟨m, rfl⟩ : ∃ m, k = clen a + m := ⟨k - clen a, by omega⟩
        rw [show clen a + m - clen a = m by omega] at e
        cases m with
        | zero => cases e; exact .inl ⟨_, _, rfl⟩
        | succ m =>
          rw [List.getElem?_cons_succ] at e
          by_cases c2 : m < clen b
          · rw [List.getElem?_append_left (by rw [codeR_len]; exact c2)] at e
            have := codeAt h.ifB m d e
            rwa [show n + 2 + clen a + m = n + (clen a + (m + 1) + 1) by omega] at this
          · rw [List.getElem?_append_right (by rw [codeR_len]; omega), codeR_len] at e
            have := codeAt h.ite (m - clen b) d e
            rwa [show n + 2 + clen a + clen b + (m - clen b) = n + (clen a + (m + 1) + 1) by omega] at this
  | .loop w ws b t, ah, i, fr, n, h, k, d, e => by
    cases k with
    | zero => cases e; exact .inr ⟨⟨ah, i, .loop w ws b t, fr⟩, h, rfl, rfl⟩
    | succ k =>
      have e : (codeR b (ah ++ [i, 0]) 0 (.loopF ah i w ws b t fr) (n + 1) ++ De.jump (ah ++ [i]) n :: codeR t ah (i + 1) fr (n + 2 + clen b))[k]? = some d := by simpa [codeR] using e
      by_cases c : k < clen b
      · rw [List.getElem?_append_left (by rw [codeR_len]; exact c)] at e
        have := codeAt h.body k d e
        rwa [show n + 1 + k = n + (k + 1) by omega] at this
      · rw [List.getElem?_append_right (by rw [codeR_len]; omega), codeR_len] at e
        obtain ⟨m, rfl⟩ : ∃ m, k = clen b + m := ⟨k - clen b, by omega⟩
        rw [show clen b + m - clen b = m by omega] at e
        cases m with
        | zero => cases e; exact .inl ⟨_, _, rfl⟩
        | succ m =>
          rw [List.getElem?_cons_succ] at e
          have := codeAt h.loop m d e
          rwa [show n + 2 + clen b + m = n + (clen b + (m + 1) + 1) by omega] at this
end LW

namespace LW
open PySem PySem.Spec PyProof.Rows L2
def topS (i : Nat) : Stmt := PySem.Challenge.pw_loopwords_k05_tasks_told.main.body.getD i (.Pass ⟨0, 0, 0, 0⟩)

local macro_rules | `(tactic| walk_at "go1") => `(tactic| first
  | refine ⟨_, rfl, ?_⟩
  | refine ⟨_, _, rfl, rfl, ?_⟩
  | refine ⟨show (0 : Int) < _ from by omega, ?_⟩
  | refine ⟨show CMul _ _ from by first | exact .inl ⟨by omega, by omega⟩ | exact .inr ⟨by omega, by omega⟩, ?_⟩
  | refine ⟨show CDiv _ _ from ⟨by omega, by omega⟩, ?_⟩)
local macro_rules | `(tactic| walk_at "go") => `(tactic| repeat walk_at "go1")

section
variable {P : Program} {w : World} {K : PySem.W.Frag} {mg : Str → Option Value} {base : Heap}

/-! ### calls that may raise -/
structure CalX (P : Program) (w : World) (K : PySem.W.Frag) (mg : Str → Option Value) (base : Heap) (k : Nat) (x : Str) (sp : Sp) : Prop where
  ex : ∃ (f : Addr) (fd : FuncData) (ps : List Str), FnOk P w K mg base (L2.CX P w) k f fd ps sp ∧ mg x = some (.ref f) ∧ PySem.W.keepIn K (.ref f) = true ∧ Binds K fd ps []
theorem cX {X : Cx} {k j : Nat} {x : Str} {sp : Sp} {E : XK} {p pos : Pos} {e : Expr} {es : List Expr} {t : TA} (c : CalX X.prog X.w X.K X.mg X.base k x sp) (hr : Room j X.A) (hk : k ≤ j) (hg : Gl X x) (hx : Passes (L2.CX X.prog X.w) X E) (ha : PA X (e :: es) t)
    (hdb : (x == ("__debug__" : Str)) = false := by decide) (he : starEach (e :: es) X.env = (false, eval e X.env) :: starEach es X.env := by rfl) (hpl : (backTo pos (starEach es X.env)).any (·.1) = false := by rfl) :
    PE X (.Call (.Name x p) (e :: es) [] pos) (tCall sp [] E t) := by
  obtain ⟨f, fd, ps, F, hm, kp, b⟩ := c.ex
  exact pe_call F (hr.mono hk) hg hm kp b .nil hx ha hdb he hpl
/-- an own exception class over ValueError -/
structure ExF (K : PySem.W.Frag) (mg : Str → Option Value) (x : Str) (C : Addr) : Prop where
  xP : PySem.W.excIn K C [.type "ValueError", .type "Exception", .type "BaseException", .type "object"] "ValueError.__new__" = true
  gP : mg x = some (.ref C)
  kP : PySem.W.keepIn K (.ref C) = true
  bP : PySem.W.subIn K (.ref C) (.type "BaseException") = some true
  tP : PySem.W.typeIn K (.ref C) = some (.type "type")
/-- the module's numbers -/
structure Cs (mg : Str → Option Value) : Prop where
  MOST_BOXES : ∃ u, mg "MOST_BOXES" = some u ∧ RelV (.int 3) u
  HIGHEST_TOP : ∃ u, mg "HIGHEST_TOP" = some u ∧ RelV (.int 9) u
  MOST_ROWS : ∃ u, mg "MOST_ROWS" = some u ∧ RelV (.int 12) u
  MOST_WITHIN : ∃ u, mg "MOST_WITHIN" = some u ∧ RelV (.int 3) u
  MOST_KEPT : ∃ u, mg "MOST_KEPT" = some u ∧ RelV (.int 3) u
  HIGHEST_NUMBER : ∃ u, mg "HIGHEST_NUMBER" = some u ∧ RelV (.int 9) u
  HIGHEST_LAST : ∃ u, mg "HIGHEST_LAST" = some u ∧ RelV (.int 99) u

abbrev s__is_from_to : Stmt := topS 20
theorem sc__is_from_to : FnScope ["number", "least", "most"] ["number", "least", "most"] (defScope s__is_from_to) := ⟨rfl, rfl, rfl, by decide +kernel, rfl, by decide +kernel, by decide +kernel⟩

def spFT (K : PySem.W.Frag) : Sp := fun vs H Q _ => ∃ (v : V) (d : D) (lo hi : Int), vs = [v, .int lo, .int hi] ∧ Din K H v d ∧ Q (.bl (fromTo d lo hi)) H
theorem ok__is_from_to {f : Addr} {fd : FuncData} {k : Nat} (F : Fun K "_is_from_to" "_is_from_to" s__is_from_to f fd) (B : Bl mg) : FnOk P w K mg base CX0 (k + 1) f fd ["number", "least", "most"] (spFT K) := by
  refine F.ok sc__is_from_to (fun vs H Q E h => ?_) (fun cdv A outer s H vs Q E hr h => ?_)
  · obtain ⟨v, d, lo, hi, rfl, _⟩ := h
    rfl
  obtain ⟨v, d, lo, hi, rfl, hd, q⟩ := h
  refine ⟨_, (pss_one (ps_ret (pe_and (pe_cmpR kEqTy (pe_callTy (kType (K := K) rfl) (by rfl) B.type (by decide +kernel) (pa_cons (pv 0) pa_nil)) (pe_bltn (v := .ty "int") (by rfl) B.int (by decide +kernel) rfl) (nomark _)) (pe_one (pe_chain op_le op_le (pv 1) (pv 0) (pv 2)))))), ?_⟩
  refine ⟨_, rfl, _, _, rfl, dinTy hd, _, _, rfl, rfl, (dinTy hd).known, .int, _, rfl, ?_⟩
  rw [decInt]
  cases hd with
  | int i =>
    refine iteT ?_
    refine ⟨_, rfl, _, rfl, _, _, rfl, rfl, _, rfl, ?_⟩
    have q' : Q (.bl (decide (lo ≤ i) && decide (i ≤ hi))) H := q
    refine ifB (fun c => ?_) (fun c => ?_)
    · refine ⟨_, rfl, _, _, rfl, rfl, ?_⟩
      rw [c, Bool.true_and] at q'
      exact q'
    · rw [c, Bool.false_and] at q'
      exact q'
  | _ => exact iteF q
abbrev s__is_sum : Stmt := topS 19
theorem sc__is_sum : FnScope ["one", "many", "numbers", "last", "number"] ["one", "many"] (defScope s__is_sum) := ⟨rfl, rfl, rfl, by decide +kernel, rfl, by decide +kernel, by decide +kernel⟩

def spIsS (K : PySem.W.Frag) : Sp := fun vs H Q _ => ∃ (v : V) (d : D) (many : Nat), vs = [v, .int (many : Int)] ∧ Din K H v d ∧ many ≤ 1000 ∧ ∀ H', Same H H' → Q (.bl (sumOk many d)) H'
theorem ok__is_sum {f : Addr} {fd : FuncData} {k : Nat} (F : Fun K "_is_sum" "_is_sum" s__is_sum f fd) (B : Bl mg) (T : Cs mg) (c__is_from_to : C8.Cal P w K mg base k "_is_from_to" (spFT K) []) : FnOk P w K mg base CX0 (k + 1) f fd ["one", "many"] (spIsS K) := by
  refine F.ok sc__is_sum (fun vs H Q E h => ?_) (fun cdv A outer s H vs Q E hr h => ?_)
  · obtain ⟨v, d, many, rfl, _⟩ := h
    rfl
  obtain ⟨v, d, many, rfl, hd, hm, q⟩ := h
  refine ⟨_, (pss_cons (ps_if (PW.pt (pw_or (pt_cmpR kNeTy (pe_callTy (kType (K := K) rfl) (by rfl) B.type (by decide +kernel) (pa_cons (pv 0) pa_nil)) (pe_bltn (v := .ty "tuple") (by rfl) B.tuple (by decide +kernel) rfl) (nomark _)) (pw_or1 (pt_cmpR op_ne (pe_callB (kLen (K := K) rfl) (by rfl) B.len PySem.boot_len (pa_cons (pv 0) pa_nil)) pe_int (nomark _)))))
      (pss_one (ps_ret pe_bl))
      pss_nil)
    (pss_cons (ps_asg (pv 0) (kT2 (K := K) rfl rfl (pg_name (i := 2) sc__is_sum.nd rfl (.inl rfl)) (pg_name (i := 3) sc__is_sum.nd rfl (.inl rfl))))
    (pss_cons (ps_if (PW.pt (pw_or (pt_cmpR kNeTy (pe_callTy (kType (K := K) rfl) (by rfl) B.type (by decide +kernel) (pa_cons (pv 2) pa_nil)) (pe_bltn (v := .ty "tuple") (by rfl) B.tuple (by decide +kernel) rfl) (nomark _)) (pw_or1 (pt_cmpR op_ne (pe_callB (kLen (K := K) rfl) (by rfl) B.len PySem.boot_len (pa_cons (pv 2) pa_nil)) (pv 1) (nomark _)))))
      (pss_one (ps_ret pe_bl))
      pss_nil)
    (pss_cons (ps_if (pt_not (pt_val (pe_callB (kAll (K := K) rfl rfl) (by rfl) B.all (by decide +kernel) (pa_cons (pe_lc (own := [("number", 4)]) rfl sc__is_sum.nd (kTup_ (K := K) rfl (pv 2)) (blkOk_by (own := [("number", 4)]) (N := ["one", "many", "numbers", "last", "number"]) (sc := defScope s__is_sum) (by decide +kernel)) (fun _ _ _ _ _ => (pgN (i := 4) sc__is_sum.nd rfl (.inl rfl) (.inr rfl))) (fun _ _ _ _ _ => pts_nil) (fun _ _ _ _ _ => (C8.pe_c c__is_from_to hr (Nat.le_refl _) (by rfl) (pa_cons (pv 4) (pa_cons (pe_un un_neg (C8.pe_gc (by rfl) T.HIGHEST_NUMBER)) (pa_cons (C8.pe_gc (by rfl) T.HIGHEST_NUMBER) pa_nil)))))) pa_nil))))
      (pss_one (ps_ret pe_bl))
      pss_nil)
    (pss_one (ps_ret (C8.pe_c c__is_from_to hr (Nat.le_refl _) (by rfl) (pa_cons (pv 3) (pa_cons (pe_un un_neg (C8.pe_gc (by rfl) T.HIGHEST_LAST)) (pa_cons (C8.pe_gc (by rfl) T.HIGHEST_LAST) pa_nil)))))))))), ?_⟩
  refine ⟨_, rfl, _, _, rfl, dinTy hd, _, _, rfl, rfl, (dinTy hd).known, .tup, _, rfl, ?_⟩
  rw [decTup]
  cases hd with
  | @tup a xs ds hT hA =>
    refine iteF ?_
    have hl := hA.len
    refine ⟨_, rfl, _, _, rfl, .inr hT, rfl, _, rfl, ?_⟩
    refine notDec (fun c => ?_) (fun c => ?_)
    · have z := q H (Same.refl _)
      rw [sumOk_not (fun e => c (intEq.mpr (by omega)))] at z
      exact z
    · have c' := intEq.mp c
      obtain ⟨x, y, dx, dy, rfl, rfl, hx, hy⟩ := din2 hA (by omega)
      clear hA hl c c'
      refine ⟨_, rfl, _, _, rfl, hT, rfl, _, _, rfl, _, _, rfl, rfl, ?_⟩
      refine ⟨_, rfl, _, _, rfl, dinTy hx, _, _, rfl, rfl, (dinTy hx).known, .tup, _, rfl, ?_⟩
      rw [decTup]
      cases hx with
      | @tup t ns dns hT2 hA2 =>
        refine iteF ?_
        have hl2 := hA2.len
        refine ⟨_, rfl, _, _, rfl, .inr hT2, _, rfl, rfl, _, rfl, ?_⟩
        refine notDec (fun c => ?_) (fun c => ?_)
        · have z := q H (Same.refl _)
          have ne : ¬ dns.length = many := fun e => c (intEq.mpr (by omega))
          have e : sumOk many (.tup [.tup dns, dy]) = false := by simp [sumOk, ne]
          rw [e] at z
          exact z
        · have c' := intEq.mp c
          have em : dns.length = many := by omega
          refine ⟨_, rfl, _, rfl, ⟨_, hT2⟩, fun D nD => ?_⟩
          refine lc_it walk_tup (Made H D (fun i y _ => y = .bl ((dns[i]?.map fun n => fromTo n (-9) 9).getD false))) (made0 nD) (fun i H1 _ p => tupS p.same hT2) (fun i z H1 H2 hi p y => ?_) (fun H1 p => ?_)
          · obtain ⟨rfl, ez⟩ := y
            obtain ⟨dz, e1, hz⟩ := dinAt (dinASame p.same hA2) ez
            refine ⟨rfl, ?_⟩
            refine lcYes ?_
            refine ⟨_, rfl, _, rfl, z, dz, -9, 9, rfl, hz, ?_⟩
            exact p.push nD (fun _ _ _ _ _ h => h) (by omega) (Same.refl _) (by simp [e1])
          · obtain ⟨g, sm⟩ := madeBl (p := fun n => fromTo n (-9) 9) p (by omega)
            refine ⟨_, _, rfl, .of g, _, rfl, ?_⟩
            have z := q H1 sm
            have e : sumOk many (.tup [.tup dns, dy]) = ((dns.all fun n => fromTo n (-9) 9) && fromTo dy (-99) 99) := by simp [sumOk, em]
            rw [e] at z
            rw [allMap]
            cases ha : dns.all (fun n => fromTo n (-9) 9) with
            | false =>
              rw [ha] at z
              exact iteT z
            | true =>
              rw [ha] at z
              refine iteF ?_
              exact ⟨_, rfl, _, rfl, _, dy, -99, 99, rfl, dinSame sm hy, z⟩
      | _ =>
        refine iteT ?_
        exact q _ (Same.refl _)
  | _ =>
    refine iteT ?_
    exact q _ (Same.refl _)

end

end LW

namespace LW
open PySem PySem.Spec PyProof.Rows L2
local macro_rules | `(tactic| walk_at "go1") => `(tactic| first
  | refine ⟨_, rfl, ?_⟩
  | refine ⟨_, _, rfl, rfl, ?_⟩
  | refine ⟨show (0 : Int) < _ from by omega, ?_⟩
  | refine ⟨show CMul _ _ from by first | exact .inl ⟨by omega, by omega⟩ | exact .inr ⟨by omega, by omega⟩, ?_⟩
  | refine ⟨show CDiv _ _ from ⟨by omega, by omega⟩, ?_⟩)
local macro_rules | `(tactic| walk_at "go") => `(tactic| repeat walk_at "go1")

section
variable {P : Program} {w : World} {K : PySem.W.Frag} {mg : Str → Option Value} {base : Heap}

abbrev s__are_kept_words : Stmt := topS 18
theorem sc__are_kept_words : FnScope ["words", "many", "word"] ["words", "many"] (defScope s__are_kept_words) := ⟨rfl, rfl, rfl, by decide +kernel, rfl, by decide +kernel, by decide +kernel⟩

def spWords (K : PySem.W.Frag) : Sp := fun vs H Q _ => ∃ (v : V) (d : D) (many : Nat), vs = [v, .int (many : Int)] ∧ Din K H v d ∧ many ≤ 1000 ∧ ∀ H', Same H H' → Q (.bl (wordsOk many d)) H'
theorem ok__are_kept_words {f : Addr} {fd : FuncData} {k : Nat} (F : Fun K "_are_kept_words" "_are_kept_words" s__are_kept_words f fd) (B : Bl mg) (T : Cs mg) (c__is_sum : C8.Cal P w K mg base k "_is_sum" (spIsS K) []) : FnOk P w K mg base CX0 (k + 1) f fd ["words", "many"] (spWords K) := by
  refine F.ok sc__are_kept_words (fun vs H Q E h => ?_) (fun cdv A outer s H vs Q E hr h => ?_)
  · obtain ⟨v, d, many, rfl, _⟩ := h
    rfl
  obtain ⟨v, d, many, rfl, hd, hm, q⟩ := h
  refine ⟨_, (pss_cons (ps_if (PW.pt (pw_or (pt_cmpR kNeTy (pe_callTy (kType (K := K) rfl) (by rfl) B.type (by decide +kernel) (pa_cons (pv 0) pa_nil)) (pe_bltn (v := .ty "tuple") (by rfl) B.tuple (by decide +kernel) rfl) (nomark _)) (pw_or1 (pt_cmpR op_gt (pe_callB (kLen (K := K) rfl) (by rfl) B.len PySem.boot_len (pa_cons (pv 0) pa_nil)) (C8.pe_gc (by rfl) T.MOST_KEPT) (nomark _)))))
      (pss_one (ps_ret pe_bl))
      pss_nil)
    (pss_one (ps_ret (pe_callB (kAll (K := K) rfl rfl) (by rfl) B.all (by decide +kernel) (pa_cons (pe_lc (own := [("word", 2)]) rfl sc__are_kept_words.nd (kTup_ (K := K) rfl (pv 0)) (blkOk_by (own := [("word", 2)]) (N := ["words", "many", "word"]) (sc := defScope s__are_kept_words) (by decide +kernel)) (fun _ _ _ _ _ => (pgN (i := 2) sc__are_kept_words.nd rfl (.inl rfl) (.inr rfl))) (fun _ _ _ _ _ => pts_nil) (fun _ _ _ _ _ => (C8.pe_c c__is_sum hr (Nat.le_refl _) (by rfl) (pa_cons (pv 2) (pa_cons (pv 1) pa_nil))))) pa_nil))))), ?_⟩
  refine ⟨_, rfl, _, _, rfl, dinTy hd, _, _, rfl, rfl, (dinTy hd).known, .tup, _, rfl, ?_⟩
  rw [decTup]
  cases hd with
  | @tup a xs ds hT hA =>
    refine iteF ?_
    have hl := hA.len
    refine ⟨_, rfl, _, _, rfl, .inr hT, _, _, rfl, rfl, _, rfl, ?_⟩
    refine yesDec (fun c => ?_) (fun c => ?_)
    · have z := q H (Same.refl _)
      have e : wordsOk many (.tup ds) = false := by
        have : ¬ ds.length ≤ 3 := by omega
        simp [wordsOk, this]
      rw [e] at z
      exact z
    · refine ⟨_, rfl, _, rfl, ⟨_, hT⟩, fun D nD => ?_⟩
      refine lc_it walk_tup (Made H D (fun i y _ => y = .bl ((ds[i]?.map (sumOk many)).getD false))) (made0 nD) (fun i H1 _ p => tupS p.same hT) (fun i z H1 H2 hi p y => ?_) (fun H1 p => ?_)
      · obtain ⟨rfl, ez⟩ := y
        obtain ⟨dz, e1, hz⟩ := dinAt (dinASame p.same hA) ez
        refine ⟨rfl, ?_⟩
        refine lcYes ?_
        refine ⟨_, rfl, _, rfl, z, dz, many, rfl, hz, hm, fun H3 s3 => ?_⟩
        exact p.push nD (fun _ _ _ _ _ h => h) (by omega) s3 (by simp [e1])
      · obtain ⟨g, sm⟩ := madeBl (p := sumOk many) p (by omega)
        refine ⟨_, _, rfl, .of g, ?_⟩
        rw [allMap]
        have z := q H1 sm
        have e : wordsOk many (.tup ds) = ds.all (sumOk many) := by
          have : ds.length ≤ 3 := by omega
          simp [wordsOk, this]
        rw [e] at z
        exact z
  | _ =>
    refine iteT ?_
    exact q _ (Same.refl _)
abbrev s_rows_within : Stmt := topS 12
theorem sc_rows_within : FnScope ["row"] ["row"] (defScope s_rows_within) := ⟨rfl, rfl, rfl, by decide +kernel, rfl, by decide +kernel, by decide +kernel⟩

/-- of a row that is well -/
def spWithin (K : PySem.W.Frag) : Sp := fun vs H Q _ => ∃ (v : V) (d : D) (many : Nat), vs = [v] ∧ Din K H v d ∧ rowOk many d = true ∧ ∀ (p : Addr) (ws : List V) (H' : Hp), H p = none → Same H H' → H' p = some (.tup ws) → DinA K H' ws (inner d) → Q (.ref p) H'
theorem rowShape {many : Nat} {d : D} (h : rowOk many d = true) : (∃ b s, d = .tup [.str "put", b, s]) ∨ (∃ w, d = .tup [.str "say", w]) ∨ (∃ w a b, d = .tup [.str "if", w, a, b]) ∨ ∃ w ws b, d = .tup [.str "loop", w, ws, b] := by
  unfold rowOk at h
  split at h
  · rename_i k rest
    unfold restOk at h
    split at h
    · rename_i e
      subst e
      split at h
      · exact .inl ⟨_, _, rfl⟩
      · cases h
    · split at h
      · rename_i e
        subst e
        split at h
        · exact .inr (.inl ⟨_, rfl⟩)
        · cases h
      · split at h
        · rename_i e
          subst e
          split at h
          · exact .inr (.inr (.inl ⟨_, _, _, rfl⟩))
          · cases h
        · split at h
          · rename_i e
            subst e
            split at h
            · exact .inr (.inr (.inr ⟨_, _, _, rfl⟩))
            · cases h
          · cases h
  · cases h
theorem kDiff : ("put" : Str) ≠ "if" ∧ ("put" : Str) ≠ "loop" ∧ ("say" : Str) ≠ "if" ∧ ("say" : Str) ≠ "loop" ∧ ("loop" : Str) ≠ "if" ∧ ("if" : Str) ≠ "loop" ∧ ("say" : Str) ≠ "put" ∧ ("if" : Str) ≠ "put" ∧ ("loop" : Str) ≠ "put" ∧ ("put" : Str) ≠ "say" ∧ ("if" : Str) ≠ "say" ∧ ("loop" : Str) ≠ "say" := by decide +kernel
theorem decS {a b : Str} (h : a ≠ b) : decide (V.str a = V.str b) = false := decide_eq_false fun e => h (V.str.inj e)
theorem ok_rows_within {f : Addr} {fd : FuncData} {k : Nat} (F : Fun K "rows_within" "rows_within" s_rows_within f fd) : FnOk P w K mg base CX0 (k + 1) f fd ["row"] (spWithin K) := by
  refine F.ok sc_rows_within (fun vs H Q E h => ?_) (fun cdv A outer s H vs Q E hr h => ?_)
  · obtain ⟨v, d, many, rfl, _⟩ := h
    rfl
  obtain ⟨v, d, many, rfl, hd, ho, q⟩ := h
  refine ⟨_, (pss_cons (ps_if (pt_cmpR op_eq (pe_ix (kIxT (K := K) rfl) (pv 0) pe_int (fun _ _ => rfl)) pe_str (nomark _))
      (pss_one (ps_ret (pe_tup (pa_cons (pe_ix (kIxT (K := K) rfl) (pv 0) pe_int (fun _ _ => rfl)) (pa_cons (pe_ix (kIxT (K := K) rfl) (pv 0) pe_int (fun _ _ => rfl)) pa_nil)))))
      pss_nil)
    (pss_cons (ps_if (pt_cmpR op_eq (pe_ix (kIxT (K := K) rfl) (pv 0) pe_int (fun _ _ => rfl)) pe_str (nomark _))
      (pss_one (ps_ret (pe_tup (pa_cons (pe_ix (kIxT (K := K) rfl) (pv 0) pe_int (fun _ _ => rfl)) pa_nil))))
      pss_nil)
    (pss_one (ps_ret (pe_tup pa_nil))))), ?_⟩
  obtain ⟨k1, k2, k3, k4, k5, k6, _⟩ := kDiff
  rcases rowShape ho with ⟨b, sm, rfl⟩ | ⟨wd, rfl⟩ | ⟨wd, r1, r2, rfl⟩ | ⟨wd, ws, r1, rfl⟩
  · cases hd with
    | tup hT hA =>
      cases hA with
      | cons h0 hA1 =>
        cases h0
        refine ⟨_, rfl, _, _, _, _, rfl, rfl, hT, atI_nat (j := 0) rfl, rfl, _, rfl, ?_⟩
        rw [decS k1]
        refine iteF ?_
        refine ⟨_, rfl, _, _, _, _, rfl, rfl, hT, atI_nat (j := 0) rfl, rfl, _, rfl, ?_⟩
        rw [decS k2]
        refine iteF ⟨by show 0 ≤ sizeLine; decide, fun p np => q p [] _ np (sameNew np) upd_same ?_⟩
        simp [inner, k1, k2]
        exact .nil
  · cases hd with
    | tup hT hA =>
      cases hA with
      | cons h0 hA1 =>
        cases h0
        refine ⟨_, rfl, _, _, _, _, rfl, rfl, hT, atI_nat (j := 0) rfl, rfl, _, rfl, ?_⟩
        rw [decS k3]
        refine iteF ?_
        refine ⟨_, rfl, _, _, _, _, rfl, rfl, hT, atI_nat (j := 0) rfl, rfl, _, rfl, ?_⟩
        rw [decS k4]
        refine iteF ⟨by show 0 ≤ sizeLine; decide, fun p np => q p [] _ np (sameNew np) upd_same ?_⟩
        simp [inner, k3, k4]
        exact .nil
  · cases hd with
    | tup hT hA =>
      cases hA with
      | cons h0 hA1 =>
        cases h0
        cases hA1 with
        | cons hw hA2 =>
          have hA3 := hA2
          cases hA2 with
          | cons ha hA4 =>
            cases hA4 with
            | cons hb hA5 =>
              cases hA5
              refine ⟨_, rfl, _, _, _, _, rfl, rfl, hT, atI_nat (j := 0) rfl, rfl, _, rfl, ?_⟩
              rw [decide_eq_true rfl]
              refine iteT ⟨_, rfl, _, _, _, _, rfl, rfl, hT, atI_nat (j := 2) rfl, _, rfl, _, _, _, _, rfl, rfl, hT, atI_nat (j := 3) rfl, by show 2 ≤ sizeLine; decide, fun p np => q p _ _ np (sameNew np) upd_same ?_⟩
              have e : inner (.tup [.str "if", wd, r1, r2]) = [r1, r2] := by simp [inner]
              rw [e]
              exact dinASame (sameNew np) hA3
  · cases hd with
    | tup hT hA =>
      cases hA with
      | cons h0 hA1 =>
        cases h0
        cases hA1 with
        | cons hw hA2 =>
          cases hA2 with
          | cons ha hA4 =>
            have hA3 := hA4
            cases hA4 with
            | cons hb hA5 =>
              cases hA5
              refine ⟨_, rfl, _, _, _, _, rfl, rfl, hT, atI_nat (j := 0) rfl, rfl, _, rfl, ?_⟩
              rw [decS k5]
              refine iteF ?_
              refine ⟨_, rfl, _, _, _, _, rfl, rfl, hT, atI_nat (j := 0) rfl, rfl, _, rfl, ?_⟩
              rw [decide_eq_true rfl]
              refine iteT ⟨_, rfl, _, _, _, _, rfl, rfl, hT, atI_nat (j := 3) rfl, by show 1 ≤ sizeLine; decide, fun p np => q p _ _ np (sameNew np) upd_same ?_⟩
              have e : inner (.tup [.str "loop", wd, ws, r1]) = [r1] := by simp [inner, k5]
              rw [e]
              exact dinASame (sameNew np) hA3

end

end LW

namespace LW
open PySem PySem.Spec PyProof.Rows L2
local macro_rules | `(tactic| walk_at "go1") => `(tactic| first
  | refine ⟨_, rfl, ?_⟩
  | refine ⟨_, _, rfl, rfl, ?_⟩
  | refine ⟨show (0 : Int) < _ from by omega, ?_⟩
  | refine ⟨show CMul _ _ from by first | exact .inl ⟨by omega, by omega⟩ | exact .inr ⟨by omega, by omega⟩, ?_⟩
  | refine ⟨show CDiv _ _ from ⟨by omega, by omega⟩, ?_⟩)
local macro_rules | `(tactic| walk_at "go") => `(tactic| repeat walk_at "go1")

section
variable {P : Program} {w : World} {K : PySem.W.Frag} {mg : Str → Option Value} {base : Heap}

abbrev s__check_count : Stmt := topS 16
theorem sc__check_count : FnScope ["count"] ["count"] (defScope s__check_count) := ⟨rfl, rfl, rfl, by decide +kernel, rfl, by decide +kernel, by decide +kernel⟩

def spCount (CB : Addr) : Sp := fun vs H Q E => ∃ n : Nat, vs = [.int (n : Int)] ∧ (12 < n → ∀ H', Same H H' → E (.ref CB) none H') ∧ (n ≤ 12 → Q .non H)
theorem ok__check_count {f CB : Addr} {fd : FuncData} {k : Nat} (F : Fun K "_check_count" "_check_count" s__check_count f fd) (B : Bl mg) (T : Cs mg) (XBadProgram : ExF K mg "BadProgram" CB) : FnOk P w K mg base (L2.CX P w) (k + 1) f fd ["count"] (spCount CB) := by
  refine F.okX sc__check_count (fun vs H Q E h => ?_) (fun cdv A outer s H vs Q E hr h => ?_)
  · obtain ⟨n, rfl, _⟩ := h
    rfl
  obtain ⟨n, rfl, e, q⟩ := h
  refine ⟨_, (pss_one (ps_if (pt_cmpR op_gt (pv 0) (C8.pe_gc (by rfl) T.MOST_ROWS) (nomark _))
      (pss_one (ps_raise rfl (takes_of rfl rfl rfl rfl) (pmk_ownA PySem.F.excBase_ValueError XBadProgram.xP XBadProgram.gP XBadProgram.kP (raises_own XBadProgram.bP XBadProgram.tP) (by rfl) (pa_cons (pe_joined (PJ.cons pe_str (PJ.cons (pe_fmt (C8.pe_gc (by rfl) T.MOST_ROWS)) (PJ.cons pe_str PJ.nil)))) pa_nil))))
      pss_nil)), ?_⟩
  refine ⟨_, rfl, _, _, rfl, rfl, _, rfl, ?_⟩
  refine yesDec (fun c => ?_) (fun c => ?_)
  · refine ⟨_, rfl, by decide +kernel, .inr ⟨_, rfl, by decide +kernel, _, rfl, by decide +kernel, _, rfl, by decide +kernel, by show 1 ≤ sizeLine; decide, ?_⟩⟩
    exact e (by omega) _ (Same.refl _)
  · exact q (by omega)
abbrev s__check_row : Stmt := topS 17
theorem sc__check_row : FnScope ["row", "many", "kind", "well"] ["row", "many"] (defScope s__check_row) := ⟨rfl, rfl, rfl, by decide +kernel, rfl, by decide +kernel, by decide +kernel⟩

def spRow (K : PySem.W.Frag) (CB : Addr) : Sp := fun vs H Q E => ∃ (v : V) (d : D) (many : Nat), vs = [v, .int (many : Int)] ∧ Din K H v d ∧ many ≤ 1000 ∧
  (rowOk many d = true → ∀ H', Same H H' → Q .non H') ∧ (rowOk many d = false → ∀ H', Same H H' → E (.ref CB) none H')
theorem inKinds (k : Str) : inV (.str k) [.str "put", .str "say", .str "if", .str "loop"] = true ↔ (k = "put" ∨ k = "say" ∨ k = "if" ∨ k = "loop") := by
  have e : ∀ a : Str, eqV (.str a) (.str k) = true ↔ k = a := fun a => by
    show (a == k) = true ↔ k = a
    rw [beq_iff_eq]
    exact eq_comm
  unfold inV
  simp only [List.any_cons, List.any_nil, Bool.or_eq_true, e]
  simp only [Bool.false_eq_true, or_false]
theorem restOk_no {many : Nat} {k : Str} {rest : List D} (h : ¬ (k = "put" ∨ k = "say" ∨ k = "if" ∨ k = "loop")) : restOk many k rest = false := by
  unfold restOk
  rw [if_neg (fun e => h (.inl e)), if_neg (fun e => h (.inr (.inl e))), if_neg (fun e => h (.inr (.inr (.inl e)))), if_neg (fun e => h (.inr (.inr (.inr e))))]
theorem rest_put {many : Nat} {b s : D} : restOk many "put" [b, s] = (fromTo b 0 ((many : Int) - 1) && sumOk many s) := by simp [restOk]
theorem rest_put_no {many : Nat} {r : List D} (h : r.length ≠ 2) : restOk many "put" r = false := by
  unfold restOk
  rw [if_pos rfl]
  split
  · exact absurd rfl h
  · rfl
theorem rest_say {many : Nat} {s : D} : restOk many "say" [s] = sumOk many s := by simp [restOk, kDiff]
theorem rest_say_no {many : Nat} {r : List D} (h : r.length ≠ 1) : restOk many "say" r = false := by
  unfold restOk
  rw [if_neg kDiff.2.2.2.2.2.2.1, if_pos rfl]
  split
  · exact absurd rfl h
  · rfl
theorem rest_if {many : Nat} {s a b : D} : restOk many "if" [s, a, b] = sumOk many s := by simp [restOk, kDiff]
theorem rest_if_no {many : Nat} {r : List D} (h : r.length ≠ 3) : restOk many "if" r = false := by
  unfold restOk
  rw [if_neg kDiff.2.2.2.2.2.2.2.1, if_neg kDiff.2.2.2.2.2.2.2.2.2.2.1, if_pos rfl]
  split
  · exact absurd rfl h
  · rfl
theorem rest_loop {many : Nat} {s ws b : D} : restOk many "loop" [s, ws, b] = (sumOk many s && wordsOk many ws) := by simp [restOk, kDiff]
theorem rest_loop_no {many : Nat} {r : List D} (h : r.length ≠ 3) : restOk many "loop" r = false := by
  unfold restOk
  rw [if_neg kDiff.2.2.2.2.2.2.2.2.1, if_neg kDiff.2.2.2.2.2.2.2.2.2.2.2, if_neg kDiff.2.2.2.2.1, if_pos rfl]
  split
  · exact absurd rfl h
  · rfl
theorem ok__check_row {f CB : Addr} {fd : FuncData} {k : Nat} (F : Fun K "_check_row" "_check_row" s__check_row f fd) (B : Bl mg) (T : Cs mg) (XBadProgram : ExF K mg "BadProgram" CB) (c__is_from_to : C8.Cal P w K mg base k "_is_from_to" (spFT K) [])
    (c__is_sum : C8.Cal P w K mg base k "_is_sum" (spIsS K) []) (c__are_kept_words : C8.Cal P w K mg base k "_are_kept_words" (spWords K) []) : FnOk P w K mg base (L2.CX P w) (k + 1) f fd ["row", "many"] (spRow K CB) := by
  refine F.okX sc__check_row (fun vs H Q E h => ?_) (fun cdv A outer s H vs Q E hr h => ?_)
  · obtain ⟨v, d, many, rfl, _⟩ := h
    rfl
  obtain ⟨v, d, many, rfl, hd, hm, q, e⟩ := h
  refine ⟨_, (pss_cons (ps_if (PW.pt (pw_or (pt_cmpR kNeTy (pe_callTy (kType (K := K) rfl) (by rfl) B.type (by decide +kernel) (pa_cons (pv 0) pa_nil)) (pe_bltn (v := .ty "tuple") (by rfl) B.tuple (by decide +kernel) rfl) (nomark _)) (pw_or1 (pt_cmpR op_eq (pe_callB (kLen (K := K) rfl) (by rfl) B.len PySem.boot_len (pa_cons (pv 0) pa_nil)) pe_int (nomark _)))))
      (pss_one (ps_raise rfl (takes_of rfl rfl rfl rfl) (pmk_ownA PySem.F.excBase_ValueError XBadProgram.xP XBadProgram.gP XBadProgram.kP (raises_own XBadProgram.bP XBadProgram.tP) (by rfl) (pa_cons pe_str pa_nil))))
      pss_nil)
    (pss_cons (ps_set (i := 2) sc__check_row.nd rfl (.inl rfl) (pe_ix (kIxT (K := K) rfl) (pv 0) pe_int (fun _ _ => rfl)))
    (pss_cons (ps_if (PW.pt (pw_or (pt_cmpR kNeTy (pe_callTy (kType (K := K) rfl) (by rfl) B.type (by decide +kernel) (pa_cons (pv 2) pa_nil)) (pe_bltn (v := .ty "str") (by rfl) B.str (by decide +kernel) rfl) (nomark _)) (pw_or1 (pt_cmpR (kNotIn (K := K) rfl) (pv 2) (pe_tup (pa_cons pe_str (pa_cons pe_str (pa_cons pe_str (pa_cons pe_str pa_nil))))) (by rfl)))))
      (pss_one (ps_raise rfl (takes_of rfl rfl rfl rfl) (pmk_ownA PySem.F.excBase_ValueError XBadProgram.xP XBadProgram.gP XBadProgram.kP (raises_own XBadProgram.bP XBadProgram.tP) (by rfl) (pa_cons pe_str pa_nil))))
      pss_nil)
    (C8.pss_cut (ps_if (pt_cmpR op_eq (pv 2) pe_str (nomark _))
      (pss_one (ps_set (i := 3) sc__check_row.nd rfl (.inl rfl) (pe_and (pe_cmpR op_eq (pe_callB (kLen (K := K) rfl) (by rfl) B.len PySem.boot_len (pa_cons (pv 0) pa_nil)) pe_int (nomark _)) (pe_and (C8.pe_c c__is_from_to hr (Nat.le_refl _) (by rfl) (pa_cons (pe_ix (kIxT (K := K) rfl) (pv 0) pe_int (fun _ _ => rfl)) (pa_cons pe_int (pa_cons (pe_op op_sub (pv 1) pe_int) pa_nil)))) (pe_one (C8.pe_c c__is_sum hr (Nat.le_refl _) (by rfl) (pa_cons (pe_ix (kIxT (K := K) rfl) (pv 0) pe_int (fun _ _ => rfl)) (pa_cons (pv 1) pa_nil))))))))
      (pss_one (ps_if (pt_cmpR op_eq (pv 2) pe_str (nomark _))
        (pss_one (ps_set (i := 3) sc__check_row.nd rfl (.inl rfl) (pe_and (pe_cmpR op_eq (pe_callB (kLen (K := K) rfl) (by rfl) B.len PySem.boot_len (pa_cons (pv 0) pa_nil)) pe_int (nomark _)) (pe_one (C8.pe_c c__is_sum hr (Nat.le_refl _) (by rfl) (pa_cons (pe_ix (kIxT (K := K) rfl) (pv 0) pe_int (fun _ _ => rfl)) (pa_cons (pv 1) pa_nil)))))))
        (pss_one (ps_if (pt_cmpR op_eq (pv 2) pe_str (nomark _))
          (pss_one (ps_set (i := 3) sc__check_row.nd rfl (.inl rfl) (pe_and (pe_cmpR op_eq (pe_callB (kLen (K := K) rfl) (by rfl) B.len PySem.boot_len (pa_cons (pv 0) pa_nil)) pe_int (nomark _)) (pe_one (C8.pe_c c__is_sum hr (Nat.le_refl _) (by rfl) (pa_cons (pe_ix (kIxT (K := K) rfl) (pv 0) pe_int (fun _ _ => rfl)) (pa_cons (pv 1) pa_nil)))))))
          (pss_one (ps_set (i := 3) sc__check_row.nd rfl (.inl rfl) (pe_and (pe_cmpR op_eq (pe_callB (kLen (K := K) rfl) (by rfl) B.len PySem.boot_len (pa_cons (pv 0) pa_nil)) pe_int (nomark _)) (pe_and (C8.pe_c c__is_sum hr (Nat.le_refl _) (by rfl) (pa_cons (pe_ix (kIxT (K := K) rfl) (pv 0) pe_int (fun _ _ => rfl)) (pa_cons (pv 1) pa_nil))) (pe_one (C8.pe_c c__are_kept_words hr (Nat.le_refl _) (by rfl) (pa_cons (pe_ix (kIxT (K := K) rfl) (pv 0) pe_int (fun _ _ => rfl)) (pa_cons (pv 1) pa_nil)))))))))))))
    (pss_one (ps_if (pt_not (pt_val (pv 3)))
      (pss_one (ps_raise rfl (takes_of rfl rfl rfl rfl) (pmk_ownA PySem.F.excBase_ValueError XBadProgram.xP XBadProgram.gP XBadProgram.kP (raises_own XBadProgram.bP XBadProgram.tP) (by rfl) (pa_cons (pe_joined (PJ.cons pe_str (PJ.cons (pe_fmt (pv 2)) PJ.nil))) pa_nil))))
      pss_nil)))))), ?_⟩
  refine ⟨_, rfl, _, _, rfl, dinTy hd, _, _, rfl, rfl, (dinTy hd).known, .tup, _, rfl, ?_⟩
  rw [decTup]
  cases hd with
  | @tup a xs ds hT hA =>
    refine iteF ?_
    have hl := hA.len
    refine ⟨_, rfl, _, _, rfl, .inr hT, rfl, _, rfl, ?_⟩
    refine yesDec (fun c => ?_) (fun c => ?_)
    · have c' := intEq.mp c
      refine ⟨by show 1 ≤ sizeLine; decide, ?_⟩
      cases ds with
      | nil => exact e rfl _ (Same.refl _)
      | cons _ _ =>
        rw [List.length_cons] at hl
        omega
    · have c' : ¬ ((xs.length : Nat) : Int) = 0 := fun z => c (intEq.mpr z)
      cases hA with
      | nil => exact absurd rfl c'
      | @cons v0 vs0 d0 ds0 h0 hA1 =>
        have hl1 := hA1.len
        refine ⟨_, rfl, _, _, _, _, rfl, rfl, hT, atI_nat (j := 0) rfl, ?_⟩
        refine ⟨_, rfl, _, _, rfl, dinTy h0, _, _, rfl, rfl, (dinTy h0).known, .str, _, rfl, ?_⟩
        rw [decStr]
        cases h0 with
        | str kd =>
          refine iteF ?_
          refine ⟨_, rfl, by show 4 ≤ sizeLine; decide, fun p np => ?_⟩
          refine ⟨p, _, rfl, .inr (.of upd_same), rfl, rfl, _, rfl, ?_⟩
          have s1 : Same H (upd H p (.tup [.str "put", .str "say", .str "if", .str "loop"])) := sameNew np
          have hT1 := tupS s1 hT
          have hA2 := dinASame s1 hA1
          have hin := inKinds kd
          cases hv : inV (.str kd) [.str "put", .str "say", .str "if", .str "loop"] with
          | false =>
            refine iteT ⟨by show 1 ≤ sizeLine; decide, ?_⟩
            exact e (restOk_no fun z => by rw [hin.mpr z] at hv; cases hv) _ s1
          | true =>
            refine iteF ?_
            have hk := hin.mp hv
            generalize upd H p (.tup [.str "put", .str "say", .str "if", .str "loop"]) = H1 at *
            refine ⟨fun σ' H' => Same H H' ∧ σ' = [some (.ref a), some (.int (many : Int)), some (.str kd), some (.bl (restOk many kd ds0))], ?_, ?_⟩
            · obtain ⟨k1, k2, k3, k4, k5, k6, k7, k8, k9, k10, k11, k12⟩ := kDiff
              refine ⟨_, rfl, rfl, _, rfl, ?_⟩
              refine yesDec (fun e1 => ?_) (fun e1 => ?_)
              · have ek := strEq.mp e1
                subst ek
                refine ⟨_, rfl, _, _, rfl, .inr hT1, rfl, _, rfl, ?_⟩
                refine yesDec (fun c2 => ?_) (fun c2 => ?_)
                · have c3 := intEq.mp c2
                  rw [List.length_cons] at c3
                  obtain ⟨x, y, dx, dy, rfl, rfl, hx, hy⟩ := din2 hA2 (by omega)
                  refine ⟨_, rfl, _, _, _, _, rfl, rfl, hT1, atI_nat (j := 1) rfl, _, rfl, _, _, rfl, rfl, x, dx, 0, _, rfl, hx, _, rfl, ?_⟩
                  refine ifB (fun c4 => ?_) (fun c4 => ?_)
                  · refine ⟨_, rfl, _, _, _, _, rfl, rfl, hT1, atI_nat (j := 2) rfl, _, rfl, y, dy, many, rfl, hy, hm, fun H2 s2 => ⟨Same.trans s1 s2, ?_⟩⟩
                    rw [rest_put, c4]
                    rfl
                  · refine ⟨s1, ?_⟩
                    rw [rest_put, c4]
                    rfl
                · refine ⟨s1, ?_⟩
                  rw [rest_put_no fun z => c2 (intEq.mpr (by rw [List.length_cons] <;> omega))]
                  rfl
              · refine ⟨_, rfl, rfl, _, rfl, ?_⟩
                have n1 : kd ≠ "put" := fun z => e1 (strEq.mpr z)
                refine yesDec (fun e2 => ?_) (fun e2 => ?_)
                · have ek := strEq.mp e2
                  subst ek
                  refine ⟨_, rfl, _, _, rfl, .inr hT1, rfl, _, rfl, ?_⟩
                  refine yesDec (fun c2 => ?_) (fun c2 => ?_)
                  · have c3 := intEq.mp c2
                    rw [List.length_cons] at c3
                    obtain ⟨x, dx, rfl, rfl, hx⟩ := din1 hA2 (by omega)
                    refine ⟨_, rfl, _, _, _, _, rfl, rfl, hT1, atI_nat (j := 1) rfl, _, rfl, x, dx, many, rfl, hx, hm, fun H2 s2 => ⟨Same.trans s1 s2, ?_⟩⟩
                    rw [rest_say]
                    rfl
                  · refine ⟨s1, ?_⟩
                    rw [rest_say_no fun z => c2 (intEq.mpr (by rw [List.length_cons] <;> omega))]
                    rfl
                · refine ⟨_, rfl, rfl, _, rfl, ?_⟩
                  have n2 : kd ≠ "say" := fun z => e2 (strEq.mpr z)
                  refine yesDec (fun e3 => ?_) (fun e3 => ?_)
                  · have ek := strEq.mp e3
                    subst ek
                    refine ⟨_, rfl, _, _, rfl, .inr hT1, rfl, _, rfl, ?_⟩
                    refine yesDec (fun c2 => ?_) (fun c2 => ?_)
                    · have c3 := intEq.mp c2
                      rw [List.length_cons] at c3
                      obtain ⟨x, y, z, dx, dy, dz, rfl, rfl, hx, hy, hz⟩ := din3 hA2 (by omega)
                      refine ⟨_, rfl, _, _, _, _, rfl, rfl, hT1, atI_nat (j := 1) rfl, _, rfl, x, dx, many, rfl, hx, hm, fun H2 s2 => ⟨Same.trans s1 s2, ?_⟩⟩
                      rw [rest_if]
                      rfl
                    · refine ⟨s1, ?_⟩
                      rw [rest_if_no fun z => c2 (intEq.mpr (by rw [List.length_cons] <;> omega))]
                      rfl
                  · have n3 : kd ≠ "if" := fun z => e3 (strEq.mpr z)
                    have ek : kd = "loop" := by
                      rcases hk with z | z | z | z
                      · exact absurd z n1
                      · exact absurd z n2
                      · exact absurd z n3
                      · exact z
                    subst ek
                    refine ⟨_, rfl, _, _, rfl, .inr hT1, rfl, _, rfl, ?_⟩
                    refine yesDec (fun c2 => ?_) (fun c2 => ?_)
                    · have c3 := intEq.mp c2
                      rw [List.length_cons] at c3
                      obtain ⟨x, y, z, dx, dy, dz, rfl, rfl, hx, hy, hz⟩ := din3 hA2 (by omega)
                      refine ⟨_, rfl, _, _, _, _, rfl, rfl, hT1, atI_nat (j := 1) rfl, _, rfl, x, dx, many, rfl, hx, hm, fun H2 s2 => ⟨_, rfl, ?_⟩⟩
                      refine ifB (fun c4 => ?_) (fun c4 => ?_)
                      · refine ⟨_, rfl, _, _, _, _, rfl, rfl, tupS s2 hT1, atI_nat (j := 2) rfl, _, rfl, y, dy, many, rfl, dinSame s2 hy, hm, fun H3 s3 => ⟨Same.trans s1 (Same.trans s2 s3), ?_⟩⟩
                        rw [rest_loop, c4]
                        rfl
                      · refine ⟨Same.trans s1 s2, ?_⟩
                        rw [rest_loop, c4]
                        rfl
                    · refine ⟨s1, ?_⟩
                      rw [rest_loop_no fun z => c2 (intEq.mpr (by rw [List.length_cons] <;> omega))]
                      rfl
            · rintro σ' H' ⟨sm, rfl⟩
              refine ⟨_, rfl, _, rfl, ?_⟩
              have q' : restOk many kd ds0 = true → ∀ H', Same H H' → Q .non H' := q
              have e' : restOk many kd ds0 = false → ∀ H', Same H H' → E (.ref CB) none H' := e
              cases hb : restOk many kd ds0 with
              | true => exact iteF (q' hb _ sm)
              | false =>
                refine iteT ?_
                have lk : kd.length ≤ 4 := by
                  rcases hk with z | z | z | z <;> rw [z] <;> decide +kernel
                refine ⟨_, rfl, by decide +kernel, _, rfl, .inl ⟨_, rfl, Nat.le_trans lk (by decide), _, rfl, ?_, by show 1 ≤ sizeLine; decide, e' hb _ sm⟩⟩
                rcases hk with z | z | z | z <;> rw [z] <;> decide +kernel
        | _ =>
          refine iteT ⟨by show 1 ≤ sizeLine; decide, ?_⟩
          exact e rfl _ (Same.refl _)
  | _ =>
    refine iteT ⟨by show 1 ≤ sizeLine; decide, ?_⟩
    exact e rfl _ (Same.refl _)

end

end LW

namespace LW
open PySem PySem.Spec PyProof.Rows L2
local macro_rules | `(tactic| walk_at "go1") => `(tactic| first
  | refine ⟨_, rfl, ?_⟩
  | refine ⟨_, _, rfl, rfl, ?_⟩
  | refine ⟨show (0 : Int) < _ from by omega, ?_⟩
  | refine ⟨show CMul _ _ from by first | exact .inl ⟨by omega, by omega⟩ | exact .inr ⟨by omega, by omega⟩, ?_⟩
  | refine ⟨show CDiv _ _ from ⟨by omega, by omega⟩, ?_⟩)
local macro_rules | `(tactic| walk_at "go") => `(tactic| repeat walk_at "go1")

section
variable {P : Program} {w : World} {K : PySem.W.Frag} {mg : Str → Option Value} {base : Heap}

theorem foldTake {α β : Type} {g : β → α → Option β} {l : List α} {a c : β} {i : Nat} {d : α} (h : (l.take i).foldlM g a = some c) (e : l[i]? = some d) : (l.take (i + 1)).foldlM g a = g c d := by
  rw [List.take_add_one, e, List.foldlM_append, h]
  simp
theorem foldNone {α β : Type} {g : β → α → Option β} {l : List α} {a c : β} {i : Nat} {d : α} (h : (l.take i).foldlM g a = some c) (e : l[i]? = some d) (n : g c d = none) : l.foldlM g a = none := by
  obtain ⟨hi, rfl⟩ := List.getElem?_eq_some_iff.mp e
  have el : l = l.take i ++ l[i] :: l.drop (i + 1) := by rw [← List.drop_eq_getElem_cons hi, List.take_append_drop]
  rw [el, List.foldlM_append, h]
  show ((l[i] :: l.drop (i + 1)).foldlM g c) = none
  rw [List.foldlM_cons, n]
  rfl
abbrev s__check_rows : Stmt := topS 15
theorem sc__check_rows : FnScope ["rows", "many", "depth", "count", "row", "inner"] ["rows", "many", "depth"] (defScope s__check_rows) := ⟨rfl, rfl, rfl, by decide +kernel, rfl, by decide +kernel, by decide +kernel⟩

def spRows (K : PySem.W.Frag) (CB : Addr) (i : Nat) : Sp := fun vs H Q E => ∃ (v : V) (d : D) (many depth : Nat), vs = [v, .int (many : Int), .int (depth : Int)] ∧ Din K H v d ∧ many ≤ 1000 ∧ depth + i = 5 ∧ depth ≤ 4 ∧
  (∀ n : Nat, chk many (i - 1) d = some n → ∀ H', Same H H' → Q (.int (n : Int)) H') ∧ (chk many (i - 1) d = none → ∀ H', Same H H' → E (.ref CB) none H')
theorem ok__check_rows {f CB : Addr} {fd : FuncData} {k i : Nat} (F : Fun K "_check_rows" "_check_rows" s__check_rows f fd) (B : Bl mg) (T : Cs mg) (XBadProgram : ExF K mg "BadProgram" CB) (c__check_count : CalX P w K mg base k "_check_count" (spCount CB))
    (c__check_row : CalX P w K mg base k "_check_row" (spRow K CB)) (c_rows_within : C8.Cal P w K mg base k "rows_within" (spWithin K) []) (c__check_rows : CalX P w K mg base k "_check_rows" (spRows K CB i)) :
    FnOk P w K mg base (L2.CX P w) (k + 1) f fd ["rows", "many", "depth"] (spRows K CB (i + 1)) := by
  refine F.okX sc__check_rows (fun vs H Q E h => ?_) (fun cdv A outer s H vs Q E hr h => ?_)
  · obtain ⟨v, d, many, depth, rfl, _⟩ := h
    rfl
  obtain ⟨v, d, many, depth, rfl, hd, hm, hi, hi2, q, e⟩ := h
  refine ⟨_, (pss_cons (ps_if (pt_cmpR op_gt (pv 2) (C8.pe_gc (by rfl) T.MOST_WITHIN) (nomark _))
      (pss_one (ps_raise rfl (takes_of rfl rfl rfl rfl) (pmk_ownA PySem.F.excBase_ValueError XBadProgram.xP XBadProgram.gP XBadProgram.kP (raises_own XBadProgram.bP XBadProgram.tP) (by rfl) (pa_cons (pe_joined (PJ.cons pe_str (PJ.cons (pe_fmt (C8.pe_gc (by rfl) T.MOST_WITHIN)) (PJ.cons pe_str PJ.nil)))) pa_nil))))
      pss_nil)
    (pss_cons (ps_if (pt_cmpR kNeTy (pe_callTy (kType (K := K) rfl) (by rfl) B.type (by decide +kernel) (pa_cons (pv 0) pa_nil)) (pe_bltn (v := .ty "tuple") (by rfl) B.tuple (by decide +kernel) rfl) (nomark _))
      (pss_one (ps_raise rfl (takes_of rfl rfl rfl rfl) (pmk_ownA PySem.F.excBase_ValueError XBadProgram.xP XBadProgram.gP XBadProgram.kP (raises_own XBadProgram.bP XBadProgram.tP) (by rfl) (pa_cons pe_str pa_nil))))
      pss_nil)
    (pss_cons (ps_set (i := 3) sc__check_rows.nd rfl (.inl rfl) (pe_callB (kLen (K := K) rfl) (by rfl) B.len PySem.boot_len (pa_cons (pv 0) pa_nil)))
    (pss_cons (ps_expr (cX c__check_count hr (Nat.le_refl _) (by rfl) (passes_call (takes_of rfl rfl rfl rfl) (fun _ _ _ _ h => h)) (pa_cons (pv 3) pa_nil)))
    (pss_cons (ps_for (passes_of rfl) rfl (kTup_ (K := K) rfl (pv 0)) (pg_name (i := 4) sc__check_rows.nd rfl (.inl rfl))
      (pss_cons (ps_expr (cX c__check_row hr (Nat.le_refl _) (by rfl) (passes_call (takes_of rfl rfl rfl rfl) (fun _ _ _ _ h => h)) (pa_cons (pv 4) (pa_cons (pv 1) pa_nil))))
      (pss_one (ps_for (passes_of rfl) rfl (kTup_ (K := K) rfl (C8.pe_c c_rows_within hr (Nat.le_refl _) (by rfl) (pa_cons (pv 4) pa_nil))) (pg_name (i := 5) sc__check_rows.nd rfl (.inl rfl))
        (pss_cons (ps_aug (i := 3) sc__check_rows.nd rfl (.inl rfl) (cX c__check_rows hr (Nat.le_refl _) (by rfl) (passes_call (takes_of rfl rfl rfl rfl) (fun _ _ _ _ h => h)) (pa_cons (pv 5) (pa_cons (pv 1) (pa_cons (pe_op op_add (pv 2) pe_int) pa_nil)))) ip_add)
        (pss_one (ps_expr (cX c__check_count hr (Nat.le_refl _) (by rfl) (passes_call (takes_of rfl rfl rfl rfl) (fun _ _ _ _ h => h)) (pa_cons (pv 3) pa_nil)))))))))
    (pss_one (ps_ret (pv 3)))))))), ?_⟩
  have ei : i + 1 - 1 = i := by omega
  rw [ei] at q e
  refine ⟨_, rfl, _, _, rfl, rfl, _, rfl, ?_⟩
  refine yesDec (fun c => ?_) (fun c => ?_)
  · refine ⟨_, rfl, by decide +kernel, .inr ⟨_, rfl, by decide +kernel, _, rfl, by decide +kernel, _, rfl, by decide +kernel, by show 1 ≤ sizeLine; decide, ?_⟩⟩
    have i0 : i = 0 := by omega
    subst i0
    exact e rfl _ (Same.refl _)
  · obtain ⟨r, rfl⟩ : ∃ r, i = r + 1 := ⟨i - 1, by omega⟩
    refine ⟨_, rfl, _, _, rfl, dinTy hd, _, _, rfl, rfl, (dinTy hd).known, .tup, _, rfl, ?_⟩
    rw [decTup]
    cases hd with
    | @tup a xs ds hT hA =>
      refine iteF ?_
      have hl := hA.len
      refine ⟨_, rfl, _, _, rfl, .inr hT, ?_⟩
      refine ⟨_, rfl, xs.length, rfl, fun c1 H' s1 => e ?_ _ s1, fun c1 => ?_⟩
      · have : 12 < ds.length := by omega
        simp [chk, this]
      have hn : ¬ 12 < ds.length := by omega
      have hchk : chk many (r + 1) (.tup ds) = ds.foldlM (rowTo many (chk many r)) ds.length := by simp only [chk]; rw [if_neg hn]
      rw [hchk] at q e
      refine ⟨_, rfl, _, rfl, ⟨_, hT⟩, ?_⟩
      refine for_it walk_tup (fun j σ H' => Same H H' ∧ ∃ (cnt : Nat) (y4 y5 : Option V), σ = [some (.ref a), some (.int (many : Int)), some (.int (depth : Int)), some (.int (cnt : Int)), y4, y5] ∧ (ds.take j).foldlM (rowTo many (chk many r)) ds.length = some cnt)
        ⟨Same.refl _, xs.length, none, none, rfl, by simp [hl]⟩ (fun j σ H' _ p => tupS p.1 hT) (fun j x σ H' H2 hj p y => ?_) (fun σ H' p => ?_)
      · obtain ⟨sm, cnt, y4, y5, rfl, hc⟩ := p
        obtain ⟨rfl, ex⟩ := y
        obtain ⟨dj, edj, hdj⟩ := dinAt (dinASame sm hA) ex
        refine ⟨_, rfl, _, rfl, x, dj, many, rfl, hdj, hm, fun hok H3 s3 => ?_, fun hno H3 s3 => e (foldNone hc edj (by unfold rowTo; rw [if_neg (by rw [hno]; exact Bool.false_ne_true)])) _ (Same.trans sm s3)⟩
        have hrow : rowTo many (chk many r) cnt dj = (inner dj).foldlM (addTo (chk many r)) cnt := by unfold rowTo; rw [if_pos hok]
        refine ⟨_, rfl, x, dj, many, rfl, dinSame s3 hdj, hok, fun pw ws H4 npw s4 epw hws => ?_⟩
        have s5 := Same.trans sm (Same.trans s3 s4)
        have lw := hws.len
        refine ⟨_, rfl, ⟨_, .of epw⟩, ?_⟩
        refine for_it walk_tup (fun n σ H' => Same H4 H' ∧ ∃ (cnt2 : Nat) (y5 : Option V), σ = [some (.ref a), some (.int (many : Int)), some (.int (depth : Int)), some (.int (cnt2 : Int)), some x, y5] ∧ ((inner dj).take n).foldlM (addTo (chk many r)) cnt = some cnt2)
          ⟨Same.refl _, cnt, y5, rfl, by simp⟩ (fun n σ H' _ p => .of (p.1 _ _ epw)) (fun n z σ H' H6 hn2 p y => ?_) (fun σ H' p => ?_)
        · obtain ⟨sm2, cnt2, y5', rfl, hc2⟩ := p
          obtain ⟨rfl, ez⟩ := y
          obtain ⟨dn, edn, hdn⟩ := dinAt (dinASame sm2 hws) ez
          have s6 := Same.trans s5 sm2
          refine ⟨_, rfl, _, rfl, _, rfl, _, rfl, _, _, rfl, rfl, z, dn, many, depth + 1, by simp, hdn, hm, by omega, by omega, fun m hm2 H7 s7 => ?_, fun hno H7 s7 => e (foldNone hc edj ?_) _ (Same.trans s6 s7)⟩
          · have er : chk many r dn = some m := hm2
            refine ⟨_, _, rfl, rfl, ?_⟩
            refine ⟨_, rfl, cnt2 + m, by simp, fun c7 H8 s8 => e (foldNone hc edj ?_) _ (Same.trans s6 (Same.trans s7 s8)), fun c7 => ?_⟩
            · rw [hrow]
              exact foldNone hc2 edn (by unfold addTo; rw [er]; simp; omega)
            · refine ⟨Same.trans sm2 s7, cnt2 + m, some z, by simp, ?_⟩
              rw [foldTake hc2 edn]
              unfold addTo
              rw [er]
              simp
              omega
          · have er : chk many r dn = none := hno
            rw [hrow]
            exact foldNone hc2 edn (by unfold addTo; rw [er]; rfl)
        · obtain ⟨sm2, cnt2, y5', rfl, hc2⟩ := p
          refine ⟨Same.trans s5 sm2, cnt2, some x, y5', rfl, ?_⟩
          rw [foldTake hc edj, hrow, ← hc2, List.take_of_length_le (by omega)]
      · obtain ⟨sm, cnt, y4, y5, rfl, hc⟩ := p
        rw [List.take_of_length_le (by omega)] at hc
        exact ⟨_, rfl, q cnt hc _ sm⟩
    | _ =>
      refine iteT ⟨by show 1 ≤ sizeLine; decide, ?_⟩
      exact e rfl _ (Same.refl _)
abbrev s__check_tops : Stmt := topS 14
theorem sc__check_tops : FnScope ["tops", "top"] ["tops"] (defScope s__check_tops) := ⟨rfl, rfl, rfl, by decide +kernel, rfl, by decide +kernel, by decide +kernel⟩

def spTops (K : PySem.W.Frag) (CB : Addr) : Sp := fun vs H Q E => ∃ (v : V), vs = [v] ∧
  ((∃ (a : Addr) (xs : List V) (ds : List D), v = .ref a ∧ SqL K H a xs ∧ DinA K H xs ds ∧ (topsOk ds = true → ∀ H', Same H H' → Q .non H') ∧ (topsOk ds = false → ∀ H', Same H H' → E (.ref CB) none H')) ∨
   (∃ d, Din K H v d ∧ d.ty ≠ "list" ∧ ∀ H', Same H H' → E (.ref CB) none H'))
theorem ok__check_tops {f CB : Addr} {fd : FuncData} {k : Nat} (F : Fun K "_check_tops" "_check_tops" s__check_tops f fd) (B : Bl mg) (T : Cs mg) (XBadProgram : ExF K mg "BadProgram" CB) (c__is_from_to : C8.Cal P w K mg base k "_is_from_to" (spFT K) []) :
    FnOk P w K mg base (L2.CX P w) (k + 1) f fd ["tops"] (spTops K CB) := by
  refine F.okX sc__check_tops (fun vs H Q E h => ?_) (fun cdv A outer s H vs Q E hr h => ?_)
  · obtain ⟨v, rfl, _⟩ := h
    rfl
  obtain ⟨v, rfl, h⟩ := h
  refine ⟨_, (pss_cons (ps_if (PW.pt (pw_or (pt_cmpR kNeTy (pe_callTy (kType (K := K) rfl) (by rfl) B.type (by decide +kernel) (pa_cons (pv 0) pa_nil)) (pe_bltn (v := .ty "list") (by rfl) B.list (by decide +kernel) rfl) (nomark _)) (pw_or1 (pt_not (pt_chain op_le op_le pe_int (pe_callB (kLen (K := K) rfl) (by rfl) B.len PySem.boot_len (pa_cons (pv 0) pa_nil)) (C8.pe_gc (by rfl) T.MOST_BOXES))))))
      (pss_one (ps_raise rfl (takes_of rfl rfl rfl rfl) (pmk_ownA PySem.F.excBase_ValueError XBadProgram.xP XBadProgram.gP XBadProgram.kP (raises_own XBadProgram.bP XBadProgram.tP) (by rfl) (pa_cons (pe_joined (PJ.cons pe_str (PJ.cons (pe_fmt (C8.pe_gc (by rfl) T.MOST_BOXES)) (PJ.cons pe_str PJ.nil)))) pa_nil))))
      pss_nil)
    (pss_one (ps_if (pt_not (pt_val (pe_callB (kAll (K := K) rfl rfl) (by rfl) B.all (by decide +kernel) (pa_cons (pe_lc (own := [("top", 1)]) rfl sc__check_tops.nd (kList_ (K := K) rfl (pv 0)) (blkOk_by (own := [("top", 1)]) (N := ["tops", "top"]) (sc := defScope s__check_tops) (by decide +kernel)) (fun _ _ _ _ _ => (pgN (i := 1) sc__check_tops.nd rfl (.inl rfl) (.inr rfl))) (fun _ _ _ _ _ => pts_nil) (fun _ _ _ _ _ => (C8.pe_c c__is_from_to hr (Nat.le_refl _) (by rfl) (pa_cons (pv 1) (pa_cons pe_int (pa_cons (C8.pe_gc (by rfl) T.HIGHEST_TOP) pa_nil)))))) pa_nil))))
      (pss_one (ps_raise rfl (takes_of rfl rfl rfl rfl) (pmk_ownA PySem.F.excBase_ValueError XBadProgram.xP XBadProgram.gP XBadProgram.kP (raises_own XBadProgram.bP XBadProgram.tP) (by rfl) (pa_cons (pe_joined (PJ.cons pe_str (PJ.cons (pe_fmt (C8.pe_gc (by rfl) T.HIGHEST_TOP)) PJ.nil))) pa_nil))))
      pss_nil))), ?_⟩
  rcases h with ⟨a, xs, ds, rfl, hL, hA, q, e⟩ | ⟨d, hd, hty, e⟩
  · have hl := hA.len
    refine ⟨_, rfl, _, _, rfl, .lst hL, _, _, rfl, rfl, .lst, .lst, _, rfl, ?_⟩
    rw [decide_eq_true rfl]
    refine iteF ?_
    refine ⟨_, rfl, _, _, rfl, .inl hL, _, _, rfl, rfl, _, rfl, ?_⟩
    refine yesDec (fun c1 => ?_) (fun c1 => ?_)
    · refine ⟨_, _, rfl, rfl, _, rfl, ?_⟩
      cases c2 : decide (((xs.length : Nat) : Int) ≤ 3) with
      | false =>
        refine iteT ?_
        have c2' := of_decide_eq_false c2
        refine ⟨_, rfl, by decide +kernel, .inr ⟨_, rfl, by decide +kernel, _, rfl, by decide +kernel, _, rfl, by decide +kernel, by show 1 ≤ sizeLine; decide, ?_⟩⟩
        refine e ?_ _ (Same.refl _)
        have : ¬ ds.length ≤ 3 := by omega
        simp [topsOk, this]
      | true =>
        refine iteF ?_
        have c2' := of_decide_eq_true c2
        refine ⟨_, rfl, _, rfl, ⟨_, hL⟩, fun D nD => ?_⟩
        refine lc_it walk_list (Made H D (fun i y _ => y = .bl ((ds[i]?.map fun t => fromTo t 0 9).getD false))) (made0 nD) (fun i H1 _ p => Same.seq p.same hL) (fun i z H1 H2 hi p y => ?_) (fun H1 p => ?_)
        · obtain ⟨rfl, ez⟩ := y
          obtain ⟨dz, e1, hz⟩ := dinAt (dinASame p.same hA) ez
          refine ⟨rfl, ?_⟩
          refine lcYes ?_
          refine ⟨_, rfl, z, dz, 0, 9, rfl, hz, ?_⟩
          exact p.push nD (fun _ _ _ _ _ h => h) (by omega) (Same.refl _) (by simp [e1])
        · obtain ⟨g, sm⟩ := madeBl (p := fun t => fromTo t 0 9) p (by omega)
          refine ⟨_, _, rfl, .of g, _, rfl, ?_⟩
          rw [allMap]
          have et : topsOk ds = ds.all fun t => fromTo t 0 9 := by
            have a1 : 1 ≤ ds.length := by omega
            have a2 : ds.length ≤ 3 := by omega
            simp [topsOk, a1, a2]
          rw [et] at q e
          cases ha : ds.all fun t => fromTo t 0 9 with
          | true => exact iteF (q ha _ sm)
          | false =>
            refine iteT ⟨_, rfl, by decide +kernel, .inr ⟨_, rfl, by decide +kernel, _, rfl, by decide +kernel, by show 1 ≤ sizeLine; decide, e ha _ sm⟩⟩
    · refine ⟨_, rfl, ?_⟩
      refine iteT ?_
      refine ⟨_, rfl, by decide +kernel, .inr ⟨_, rfl, by decide +kernel, _, rfl, by decide +kernel, _, rfl, by decide +kernel, by show 1 ≤ sizeLine; decide, ?_⟩⟩
      refine e ?_ _ (Same.refl _)
      have : ¬ 1 ≤ ds.length := by omega
      simp [topsOk, this]
  · refine ⟨_, rfl, _, _, rfl, dinTy hd, _, _, rfl, rfl, (dinTy hd).known, .lst, _, rfl, ?_⟩
    rw [decide_eq_false hty]
    refine iteT ?_
    refine ⟨_, rfl, by decide +kernel, .inr ⟨_, rfl, by decide +kernel, _, rfl, by decide +kernel, _, rfl, by decide +kernel, by show 1 ≤ sizeLine; decide, ?_⟩⟩
    exact e _ (Same.refl _)

end

end LW

namespace LW
open PySem PySem.Spec PyProof.Rows L2
local macro_rules | `(tactic| walk_at "go1") => `(tactic| first
  | refine ⟨_, rfl, ?_⟩
  | refine ⟨_, _, rfl, rfl, ?_⟩
  | refine ⟨show (0 : Int) < _ from by omega, ?_⟩
  | refine ⟨show CMul _ _ from by first | exact .inl ⟨by omega, by omega⟩ | exact .inr ⟨by omega, by omega⟩, ?_⟩
  | refine ⟨show CDiv _ _ from ⟨by omega, by omega⟩, ?_⟩)
local macro_rules | `(tactic| walk_at "go") => `(tactic| repeat walk_at "go1")

section
variable {P : Program} {w : World} {K : PySem.W.Frag} {mg : Str → Option Value} {base : Heap}

/-! ### a class of the program: its property, its methods, its making -/
structure CalP (P : Program) (w : World) (K : PySem.W.Frag) (mg : Str → Option Value) (base : Heap) (k : Nat) (C : Addr) (f : Str) (sp : Sp) : Prop where
  ex : ∃ (p g : Addr) (fd : FuncData) (ps : List Str), PropOf K C f p g ∧ FnOk P w K mg base CX0 k g fd ps sp ∧ Binds K fd ps []
structure CalM (P : Program) (w : World) (K : PySem.W.Frag) (mg : Str → Option Value) (base : Heap) (k : Nat) (C : Addr) (m : Str) (sp : Sp) : Prop where
  ex : ∃ (f : Addr) (fd : FuncData) (ps : List Str), Meth K C m f ∧ FnOk P w K mg base CX0 k f fd ps sp ∧ Binds K fd ps []
structure CalC (P : Program) (w : World) (K : PySem.W.Frag) (mg : Str → Option Value) (base : Heap) (k : Nat) (C : Addr) (x : Str) (sp : Sp) : Prop where
  ex : ∃ (f : Addr) (fd : FuncData) (ps : List Str), Mk K C f ∧ FnOk P w K mg base (L2.CX P w) k f fd ps sp ∧ Binds K fd ps [] ∧ mg x = some (.ref C)
theorem pP {X : Cx} {k j : Nat} {C : Addr} {f : Str} {sp : Sp} {e : Expr} {pos : Pos} {ta : TE} (c : CalP X.prog X.w X.K X.mg X.base k C f sp) (cl : Cls X.K C) (hr : Room j X.A) (hk : k + 1 ≤ j) (he : PE X e ta)
    (hab : attributeBase e f X.env (eval e X.env) = eval e X.env := by rfl) : PE X (.Attribute e f pos) (tProp C sp [] C8.E0 ta) := by
  obtain ⟨p, g, fd, ps, hp, F, b⟩ := c.ex
  exact pe_prop he cl hp F (hr.mono hk) b .nil pass0 hab
theorem pM {X : Cx} {k j : Nat} {C : Addr} {m : Str} {sp : Sp} {o e : Expr} {es : List Expr} {pos apos : Pos} {ta : TE} {t : TA} {pl : Sem Bool} (c : CalM X.prog X.w X.K X.mg X.base k C m sp) (cl : Cls X.K C) (hr : Room j X.A) (hk : k ≤ j) (he : PE X o ta) (ha : PA X (e :: es) t)
    (hst : starEach (e :: es) X.env = (false, eval e X.env) :: starEach es X.env := by rfl) (hpl : (backTo pos (starEach es X.env)).any (·.1) = false := by rfl)
    (ht : eval (.Call (.Attribute o m apos) (e :: es) [] pos) X.env = (do
      let ov ← eval o X.env
      standAt apos.atName
      let (f, first) ← holding [ov] (getMethod ov m pl)
      callWith pos f first (backTo pos (starEach (e :: es) X.env)) (backToKw pos (keywordEach [] X.env))) := by rfl) : PE X (.Call (.Attribute o m apos) (e :: es) [] pos) (tMeth C m sp [] C8.E0 ta t) := by
  obtain ⟨f, fd, ps, hm, F, b⟩ := c.ex
  exact pe_meth he cl hm F (hr.mono hk) b .nil pass0 ha hst hpl ht
theorem pM0 {X : Cx} {k j : Nat} {C : Addr} {m : Str} {sp : Sp} {o : Expr} {pos apos : Pos} {ta : TE} {pl : Sem Bool} (c : CalM X.prog X.w X.K X.mg X.base k C m sp) (cl : Cls X.K C) (hr : Room j X.A) (hk : k ≤ j) (he : PE X o ta)
    (ht : eval (.Call (.Attribute o m apos) [] [] pos) X.env = (do
      let ov ← eval o X.env
      standAt apos.atName
      let (f, first) ← holding [ov] (getMethod ov m pl)
      callWith pos f first (backTo pos (starEach [] X.env)) (backToKw pos (keywordEach [] X.env))) := by rfl) : PE X (.Call (.Attribute o m apos) [] [] pos) (tMeth C m sp [] C8.E0 ta tNil) := by
  obtain ⟨f, fd, ps, hm, F, b⟩ := c.ex
  exact pe_meth0 he cl hm F (hr.mono hk) b .nil pass0 ht
theorem pC {X : Cx} {k j : Nat} {C : Addr} {x : Str} {sp : Sp} {E : XK} {e : Expr} {es : List Expr} {p pos : Pos} {t : TA} (c : CalC X.prog X.w X.K X.mg X.base k C x sp) (hr : Room j X.A) (hk : k + 1 ≤ j) (hx : Passes (L2.CX X.prog X.w) X E) (ha : PA X (e :: es) t) (hg : Gl X x := by rfl)
    (hdb : (x == ("__debug__" : Str)) = false := by decide) (he : starEach (e :: es) X.env = (false, eval e X.env) :: starEach es X.env := by rfl) (hpl : (backTo pos (starEach es X.env)).any (·.1) = false := by rfl) :
    PE X (.Call (.Name x p) (e :: es) [] pos) (tMake C sp [] E t) := by
  obtain ⟨f, fd, ps, M, F, b, hm⟩ := c.ex
  exact pe_make M F (hr.mono hk) hg hm b .nil hx ha hdb he hpl
/-- an instance of Program -/
def PrIn (K : PySem.W.Frag) (H : Hp) (C x : Addr) (tops : List Int) (rv : V) : Prop := ∃ dx t, H x = some (.ins C dx [("_tops", .ref t), ("rows", rv)]) ∧ SqT K H t (tops.map V.int)
theorem prSame {K : PySem.W.Frag} {H H' : Hp} {C x : Addr} {tops : List Int} {rv : V} (e : Same H H') (h : PrIn K H C x tops rv) : PrIn K H' C x tops rv := by
  obtain ⟨dx, t, h1, h2⟩ := h
  exact ⟨dx, t, e _ _ h1, tupS e h2⟩
/-- the class -/
structure ClsP (K : PySem.W.Frag) (C : Addr) : Prop where
  cl : Cls K C
  n1 : NoAttr K C "_tops"
  n2 : NoAttr K C "rows"
abbrev s_Program___init__ : Stmt := inClass (topS 11) 0
theorem sc_Program___init__ : FnScope ["self", "tops", "rows"] ["self", "tops", "rows"] (defScope s_Program___init__) := ⟨rfl, rfl, rfl, by decide +kernel, rfl, by decide +kernel, by decide +kernel⟩

def spInit (K : PySem.W.Frag) (C CB : Addr) : Sp := fun vs H Q E => ∃ (x dx : Addr) (tv rv : V), vs = [.ref x, tv, rv] ∧ H x = some (.ins C dx []) ∧
  (((∃ d, Din K H tv d ∧ d.ty ≠ "list") ∧ (∀ H', Same H H' → E (.ref CB) none H')) ∨
   ∃ (a : Addr) (xs : List V) (ds : List D), tv = .ref a ∧ SqL K H a xs ∧ DinA K H xs ds ∧ (topsOk ds = false → ∀ H', Same H H' → E (.ref CB) none H') ∧
     (topsOk ds = true → ∃ d, Din K H rv d ∧ (chk ds.length 4 d = none → ∀ H', Same H H' → E (.ref CB) none H') ∧
       (∀ n, chk ds.length 4 d = some n → ∀ (H' : Hp) (t : Addr), (∀ b o, b ≠ x → H b = some o → H' b = some o) → H' x = some (.ins C dx [("_tops", .ref t), ("rows", rv)]) → SqT K H' t xs → Q .non H')))
theorem putTwo {a b : V} : putF "rows" b (putF "_tops" a []) = ([(("_tops" : Str), a), (("rows" : Str), b)] : List (Str × V)) := by
  have h : ¬ (("_tops" : Str) = "rows") := by decide +kernel
  simp [putF, h]
theorem ok_init {f C CB : Addr} {fd : FuncData} {k : Nat} (F : Fun K "__init__" "Program.__init__" s_Program___init__ f fd) (B : Bl mg) (cp : ClsP K C) (c__check_tops : CalX P w K mg base k "_check_tops" (spTops K CB)) (c__check_rows : CalX P w K mg base k "_check_rows" (spRows K CB 5)) :
    FnOk P w K mg base (L2.CX P w) (k + 1) f fd ["self", "tops", "rows"] (spInit K C CB) := by
  refine F.okX sc_Program___init__ (fun vs H Q E h => ?_) (fun cdv A outer s H vs Q E hr h => ?_)
  · obtain ⟨x, dx, tv, rv, rfl, _⟩ := h
    rfl
  obtain ⟨x, dx, tv, rv, rfl, hx, h⟩ := h
  refine ⟨_, (pss_cons (ps_expr (cX c__check_tops hr (Nat.le_refl _) (by rfl) (passes_call (takes_of rfl rfl rfl rfl) (fun _ _ _ _ h => h)) (pa_cons (pv 1) pa_nil)))
    (pss_cons (ps_expr (cX c__check_rows hr (Nat.le_refl _) (by rfl) (passes_call (takes_of rfl rfl rfl rfl) (fun _ _ _ _ h => h)) (pa_cons (pv 2) (pa_cons (pe_callB (kLen (K := K) rfl) (by rfl) B.len PySem.boot_len (pa_cons (pv 1) pa_nil)) (pa_cons pe_int pa_nil)))))
    (pss_cons (ps_fld (pv 0) (pe_callTy (kTup (K := K) rfl) (by rfl) B.tuple (by decide +kernel) (pa_cons (pv 1) pa_nil)) rfl)
    (pss_one (ps_fld (pv 0) (pv 2) rfl))))), ?_⟩
  rcases h with ⟨⟨d, hd, ty⟩, e⟩ | ⟨a, xs, ds, rfl, hL, hA, e0, hq⟩
  · exact ⟨_, rfl, tv, rfl, .inr ⟨d, hd, ty, e⟩⟩
  refine ⟨_, rfl, .ref a, rfl, .inl ⟨a, xs, ds, rfl, hL, hA, fun hto H1 s1 => ?_, e0⟩⟩
  obtain ⟨d, hd, e, q⟩ := hq hto
  have l3 : ds.length ≤ 3 := by
    simp only [topsOk, Bool.and_eq_true, decide_eq_true_eq] at hto
    exact hto.1.2
  have lA := hA.len
  refine ⟨_, rfl, _, rfl, _, _, rfl, .inl (Same.seq s1 hL), rv, d, ds.length, 0, by rw [lA]; rfl, dinSame s1 hd, by omega, by decide, by decide, fun n hn H2 s2 => ?_, fun hno H2 s2 => e hno _ (Same.trans s1 s2)⟩
  have s12 := Same.trans s1 s2
  refine ⟨_, rfl, _, _, rfl, .inl ⟨Same.seq s12 hL, fun T nT => ?_⟩⟩
  have hx3 := sameNew (o := .tup xs) nT _ _ (s12 _ _ hx)
  refine ⟨_, rfl, x, C, dx, _, rfl, hx3, cp.cl, cp.n1, by decide, ?_⟩
  refine ⟨_, rfl, _, rfl, x, C, dx, _, rfl, upd_same, cp.cl, cp.n2, by simp [putF], ?_⟩
  rw [putTwo]
  have hne : T ≠ x := fun z => by rw [z, s12 _ _ hx] at nT; cases nT
  refine q n hn _ T (fun b o hb ho => ?_) upd_same (.of ?_)
  · rw [upd_ne hb, upd_ne hb]
    exact sameNew nT _ _ (s12 _ _ ho)
  · rw [upd_ne hne, upd_ne hne, upd_same]
abbrev s_Program_tops : Stmt := inClass (topS 11) 1
theorem sc_Program_tops : FnScope ["self"] ["self"] (defScope s_Program_tops) := ⟨rfl, rfl, rfl, by decide +kernel, rfl, by decide +kernel, by decide +kernel⟩

def spTopsP (K : PySem.W.Frag) (C : Addr) : Sp := fun vs H Q _ => ∃ (x : Addr) (tops : List Int) (rv : V), vs = [.ref x] ∧ PrIn K H C x tops rv ∧ ∀ (l : Addr) (H' : Hp), H l = none → Same H H' → H' l = some (.lst (tops.map V.int)) → Q (.ref l) H'
theorem ok_tops {f C : Addr} {fd : FuncData} {k : Nat} (F : Fun K "tops" "Program.tops" s_Program_tops f fd) (B : Bl mg) (cp : ClsP K C) : FnOk P w K mg base CX0 (k + 1) f fd ["self"] (spTopsP K C) := by
  refine F.ok sc_Program_tops (fun vs H Q E h => ?_) (fun cdv A outer s H vs Q E hr h => ?_)
  · obtain ⟨x, tops, rv, rfl, _⟩ := h
    rfl
  obtain ⟨x, tops, rv, rfl, ⟨dx, t, hx, ht⟩, q⟩ := h
  refine ⟨_, (pss_one (ps_ret (pe_callTy (kList (K := K) rfl) (by rfl) B.list (by decide +kernel) (pa_cons (pe_fld (pv 0) rfl) pa_nil)))), ?_⟩
  exact ⟨_, rfl, x, C, dx, _, _, rfl, hx, cp.cl, cp.n1, rfl, _, _, rfl, .inr ht, fun l nl => q l _ nl (sameNew nl) upd_same⟩
theorem fnWeak {CX : CXT} {k : Nat} {f : Addr} {fd : FuncData} {ps : List Str} {sp sp' : Sp} (F : FnOk P w K mg base CX k f fd ps sp) (h : ∀ vs H Q E, sp' vs H Q E → sp vs H Q E) : FnOk P w K mg base CX k f fd ps sp' :=
  ⟨fun vs H Q E z => F.1 vs H Q E (h vs H Q E z), fun A outer s H args us vs Q E hr he hb hv z => F.2 A outer s H args us vs Q E hr he hb hv (h vs H Q E z)⟩

end

end LW

namespace LW
open PySem PySem.Spec PyProof.Rows L2
local macro_rules | `(tactic| walk_at "go1") => `(tactic| first
  | refine ⟨_, rfl, ?_⟩
  | refine ⟨_, _, rfl, rfl, ?_⟩
  | refine ⟨show (0 : Int) < _ from by omega, ?_⟩
  | refine ⟨show CMul _ _ from by first | exact .inl ⟨by omega, by omega⟩ | exact .inr ⟨by omega, by omega⟩, ?_⟩
  | refine ⟨show CDiv _ _ from ⟨by omega, by omega⟩, ?_⟩)
local macro_rules | `(tactic| walk_at "go") => `(tactic| repeat walk_at "go1")

section
variable {P : Program} {w : World} {K : PySem.W.Frag} {mg : Str → Option Value} {base : Heap}

def isLp (d : D) : Bool := match d with
  | .tup (.str k :: _) => decide (k = "loop")
  | _ => false
def loP (ps : List Pd) : List (List Nat) := (ps.filter fun p => isLp p.2).map (·.1)
theorem loP_app (a b : List Pd) : loP (a ++ b) = loP a ++ loP b := by simp [loP]
theorem loP_len (a : List Pd) : (loP a).length ≤ a.length := by
  simp only [loP, List.length_map]
  exact List.length_filter_le _ _
theorem loP_one {p : List Nat} {d : D} (h : isLp d = true) : loP [(p, d)] = [p] := by simp [loP, h]
theorem loP_no {p : List Nat} {d : D} (h : isLp d = false) : loP [(p, d)] = [] := by simp [loP, h]
def PlcIn (K : PySem.W.Frag) (H : Hp) (v : V) (p : List Nat) : Prop := ∃ pa, v = .ref pa ∧ SqT K H pa (nats p)
theorem plcTS {K : PySem.W.Frag} {H H' : Hp} {vs : List V} {ps : List (List Nat)} (e : TS H H') (h : A2 (PlcIn K H) vs ps) : A2 (PlcIn K H') vs ps :=
  A2.map (B' := ps) (fun v p _ ⟨pa, e0, h1⟩ => ⟨pa, e0, tsTup e h1⟩) (fun _ m => m) h
theorem cntIn {r : Nat} {d x : D} (m : x ∈ inner d) : cnt r x ≤ cntRow r d := by
  have key : ∀ l : List D, x ∈ l → cnt r x ≤ (l.map (cnt r)).sum := by
    intro l
    induction l with
    | nil => intro m; cases m
    | cons y t ih =>
      intro m
      rw [List.map_cons, List.sum_cons]
      rcases List.mem_cons.mp m with e | m
      · subst e; omega
      · have := ih m; omega
  have := key _ m
  unfold cntRow
  omega
theorem innerPure {many r : Nat} {d x : D} (g : GRow many r d) (m : x ∈ inner d) : ∃ r' rs, r = r' + 1 ∧ x = .tup rs ∧ ∀ y ∈ rs, GRow many r' y := by
  rcases gKinds g with ⟨b, s, rfl⟩ | ⟨w, rfl⟩ | ⟨r2, w, a, b, e, rfl, ga, gb⟩ | ⟨r2, w, ws, b, e, rfl, gb⟩
  · rw [in_put] at m; cases m
  · rw [in_say] at m; cases m
  · rw [in_if] at m
    rcases List.mem_cons.mp m with e2 | e2
    · exact ⟨r2, a, e, e2, ga⟩
    · exact ⟨r2, b, e, List.mem_singleton.mp e2, gb⟩
  · rw [in_loop] at m
    exact ⟨r2, b, e, List.mem_singleton.mp m, gb⟩
theorem rowsPure {many r : Nat} {rs : List D} (h : ∀ y ∈ rs, GRow many r y) : D.pures rs = true := pures_of fun d hd => (h d hd).2.1
def spLo (K : PySem.W.Frag) (i : Nat) : Sp := fun vs H Q _ => ∃ (many : Nat) (a b : Addr) (xs : List V) (rows : List D) (ahead : List Nat), vs = [.ref a, .ref b] ∧ SqT K H a xs ∧ DinA K H xs rows ∧ SqT K H b (nats ahead) ∧ (∀ d ∈ rows, ∃ r, i = r + 1 ∧ GRow many r d) ∧ 1 ≤ i ∧ ahead.length ≤ 100 - 2 * i ∧ 2 * i ≤ 100 ∧ cnt i (.tup rows) ≤ 1000 ∧
  ∀ (p : Addr) (H' : Hp) (us : List V), H p = none → Same H H' → H' p = some (.lst us) → A2 (PlcIn K H') us (loP (plD i rows ahead)) → Q (.ref p) H'
abbrev s__loops_among : Stmt := topS 13
theorem sc__loops_among : FnScope ["rows", "ahead", "found", "number", "row", "place", "which", "inner"] ["rows", "ahead"] (defScope s__loops_among) := ⟨rfl, rfl, rfl, by decide +kernel, rfl, by decide +kernel, by decide +kernel⟩

theorem ok__loops_among {f : Addr} {fd : FuncData} {k i : Nat} (F : Fun K "_loops_among" "_loops_among" s__loops_among f fd) (B : Bl mg) (c_rows_within : C8.Cal P w K mg base k "rows_within" (spWithin K) []) (c__loops_among : C8.Cal P w K mg base k "_loops_among" (spLo K i) []) : FnOk P w K mg base CX0 (k + 1) f fd ["rows", "ahead"] (spLo K (i + 1)) := by
  refine F.ok sc__loops_among (fun vs H Q E h => ?_) (fun cdv A outer s H vs Q E hr h => ?_)
  · obtain ⟨many, a, b, xs, rows, ahead, rfl, _⟩ := h
    rfl
  obtain ⟨many, a, b, xs, rows, ahead, rfl, hT, hA, hB, hg, hi1, hl, h2i, hc, q⟩ := h
  refine ⟨_, (pss_cons (ps_set (i := 2) sc__loops_among.nd rfl (.inl rfl) (pe_lst pa_nil))
    (pss_cons (ps_for PassesOwn.never rfl (kE (K := K) rfl true (by rfl) B.enumerate (pa_cons (pv 0) pa_nil)) (kT2 (K := K) rfl rfl (pg_name (i := 3) sc__loops_among.nd rfl (.inl rfl)) (pg_name (i := 4) sc__loops_among.nd rfl (.inl rfl)))
      (pss_cons (ps_set (i := 5) sc__loops_among.nd rfl (.inl rfl) (pe_op (kCatT (K := K) rfl) (pv 1) (pe_tup (pa_cons (pv 3) pa_nil))))
      (C8.pss_cut (ps_if (pt_cmpR op_eq (pe_ix (kIxT (K := K) rfl) (pv 4) pe_int (fun _ _ => rfl)) pe_str (nomark _))
        (pss_one (ps_expr (pe_bm PySem.F.plainAttrs_list PySem.F.slot_list_append PySem.F.type_list_append mt_append (pv 2) (pa_cons (pv 5) pa_nil))))
        pss_nil)
      (pss_one (ps_for PassesOwn.never rfl (kE (K := K) rfl true (by rfl) B.enumerate (pa_cons (C8.pe_c c_rows_within hr (Nat.le_refl _) (by rfl) (pa_cons (pv 4) pa_nil)) pa_nil)) (kT2 (K := K) rfl rfl (pg_name (i := 6) sc__loops_among.nd rfl (.inl rfl)) (pg_name (i := 7) sc__loops_among.nd rfl (.inl rfl)))
        (pss_one (ps_expr (pe_bm PySem.F.plainAttrs_list PySem.F.slot_list_extend PySem.F.type_list_extend mt_extend (pv 2) (pa_cons (C8.pe_c c__loops_among hr (Nat.le_refl _) (by rfl) (pa_cons (pv 7) (pa_cons (pe_op (kCatT (K := K) rfl) (pv 5) (pe_tup (pa_cons (pv 6) pa_nil))) pa_nil))) pa_nil)))))))))
    (pss_one (ps_ret (pv 2))))), ?_⟩
  have szl : (100000 : Nat) ≤ sizeLine := by decide
  have hgr : ∀ d ∈ rows, GRow many i d := fun d hd => by
    obtain ⟨r, e, g⟩ := hg d hd
    have : r = i := by omega
    exact this ▸ g
  have lA := hA.len
  refine ⟨by show 0 ≤ sizeLine; decide, fun L nL => ?_⟩
  refine ⟨_, rfl, a, xs, rfl, tupS (sameNew nL) hT, ?_⟩
  refine for_it (walkE (xs := xs)) (fun j σ H' => ∃ (us : List V) (y3 y4 y5 y6 y7 : Option V), σ = [some (.ref a), some (.ref b), some (.ref L), y3, y4, y5, y6, y7] ∧ Same H H' ∧ H' L = some (.lst us) ∧ A2 (PlcIn K H') us (loP (plD (i + 1) (rows.take j) ahead)))
    ⟨[], none, none, none, none, none, rfl, sameNew nL, upd_same, by rw [List.take_zero]; exact .nil⟩ (fun j σ H' _ w => ?_) (fun j x σ H' H0' hj w y => ?_) (fun σ H' w => ?_)
  · obtain ⟨us, y3, y4, y5, y6, y7, rfl, sm, _⟩ := w
    exact tupS sm hT
  · obtain ⟨us, y3, y4, y5, y6, y7, rfl, sm, hL, hP⟩ := w
    obtain ⟨T, x1, x2, rfl, nT, rfl, e1, e2⟩ := y
    cases e1
    obtain ⟨d, ed, hd⟩ := dinAt hA e2
    have md : d ∈ rows := List.mem_of_getElem? ed
    have gd := hgr d md
    have hcm := cntMem (r := i) md
    refine ⟨_, _, rfl, .of upd_same, rfl, _, _, rfl, _, _, rfl, rfl, ?_⟩
    refine ⟨_, rfl, _, rfl, by show 1 ≤ sizeLine; decide, fun U nU => ?_⟩
    have sTU := Same.trans (sameNew (o := .tup [.int (j : Nat), x2]) nT) (sameNew (o := .tup [.int (j : Nat)]) nU)
    refine catUse (xs := nats ahead) (ys := [.int (j : Nat)]) (tupS (Same.trans sm sTU) hB) (.of upd_same) (by simp [nats]; omega) fun pl H2 s2 hpl => ?_
    have epl : nats ahead ++ [V.int (j : Nat)] = nats (ahead ++ [j]) := by simp [nats]
    rw [epl] at hpl
    have s02 := Same.trans sTU s2
    have sm2 : Same H H2 := Same.trans sm s02
    have hL2 : H2 L = some (.lst us) := s02 _ _ hL
    have hP2 := plcTS (tsOf s02) hP
    have lus : us.length ≤ 1000 := by
      have h1 := hP.len
      have h2 := loP_len (plD (i + 1) (rows.take j) ahead)
      have h3 := cntTake (r := i) (rows := rows) (j := j)
      rw [plLen] at h2
      omega
    have hd2 := dinSame sm2 hd
    clear hP hL nU nT s2 sTU
    obtain ⟨kd, rest, ek⟩ : ∃ kd rest, d = .tup (.str kd :: rest) := by
      rcases gKinds gd with ⟨b, s, rfl⟩ | ⟨w, rfl⟩ | ⟨r2, w, a, b, e, rfl, ga, gb⟩ | ⟨r2, w, ws, b, e, rfl, gb⟩ <;> exact ⟨_, _, rfl⟩
    have hdd := hd2
    rw [ek] at hdd
    cases hdd with
    | @tup ra _ _ hR hRA =>
    cases hRA with
    | cons h0 hA1 =>
    cases h0
    refine ⟨fun σ' H' => ∃ us' : List V, σ' = [some (.ref a), some (.ref b), some (.ref L), some (.int (j : Nat)), some (.ref ra), some (.ref pl), y6, y7] ∧ TS H2 H' ∧ Same H H' ∧ H' L = some (.lst us') ∧ us'.length ≤ 1001 ∧ A2 (PlcIn K H') us' (loP (plD (i + 1) (rows.take j) ahead ++ [(ahead ++ [j], d)])), ?_, ?_⟩
    · refine ⟨_, rfl, _, _, _, _, rfl, rfl, hR, atI_nat (j := 0) rfl, rfl, _, rfl, ?_⟩
      refine yesDec (fun c => ?_) (fun c => ?_)
      · refine ⟨_, rfl, .inl ⟨rfl, _, .of hL2⟩, _, rfl, L, us, _, rfl, rfl, hL2, by omega, us ++ [.ref pl], rfl, tsLst hL2, sameMut sm2 nL, upd_same, by simp; omega, ?_⟩
        rw [loP_app]
        refine (plcTS (tsLst hL2) hP2).app ?_
        have : isLp d = true := by rw [ek]; exact decide_eq_true (strEq.mp c)
        rw [loP_one this]
        exact .cons ⟨pl, rfl, tsTup (tsLst hL2) hpl⟩ .nil
      · refine ⟨us, rfl, TS.refl _, sm2, hL2, by omega, ?_⟩
        rw [loP_app]
        have : isLp d = false := by rw [ek]; exact decide_eq_false fun e => c (strEq.mpr e)
        rw [loP_no this, List.append_nil]
        exact hP2
    rintro σ' H3 ⟨us3, rfl, ts3, sm3, hL3, lus3, hP3⟩
    have hd3 : Din K H3 (.ref ra) d := dinSame sm3 hd
    have hpl3 := tsTup ts3 hpl
    refine ⟨_, rfl, .ref ra, d, many, rfl, hd3, gd.1, fun pw ws H4 npw s4 epw hws => ?_⟩
    refine ⟨pw, ws, rfl, .of epw, ?_⟩
    have lw := hws.len
    have sm4 := Same.trans sm3 s4
    have hpl4 := tupS s4 hpl3
    refine for_it (walkE (xs := ws)) (fun m σ H' => ∃ (us' : List V) (y6 y7 : Option V), σ = [some (.ref a), some (.ref b), some (.ref L), some (.int (j : Nat)), some (.ref ra), some (.ref pl), y6, y7] ∧ TS H4 H' ∧ Same H H' ∧ H' L = some (.lst us') ∧ us'.length ≤ 1001 + 1000 * m ∧
      A2 (PlcIn K H') us' (loP (plD (i + 1) (rows.take j) ahead ++ [(ahead ++ [j], d)] ++ ((inner d).take m).zipIdx.flatMap fun q => plD i (rowsOf q.1) (ahead ++ [j] ++ [q.2]))))
      ⟨us3, y6, y7, rfl, TS.refl _, sm4, s4 _ _ hL3, by omega, by simpa using plcTS (tsOf s4) hP3⟩ (fun m σ H' _ w => ?_) (fun m x σ H' H0' hm w y => ?_) (fun σ H' w => ?_)
    · obtain ⟨us', y6, y7, rfl, ts, _⟩ := w
      exact .of ((ts pw).1 ws epw)
    · obtain ⟨us', y6, y7, rfl, ts, sm5, hL5, lus5, hP5⟩ := w
      obtain ⟨T, z1, z2, rfl, nT, rfl, e3, e4⟩ := y
      cases e3
      obtain ⟨xi, exi, hxi⟩ := dinAt hws e4
      have mxi : xi ∈ inner d := List.mem_of_getElem? exi
      obtain ⟨r', rs, ei, rfl, grs⟩ := innerPure gd mxi
      have hpx : (D.tup rs).pure = true := by simpa [D.pure] using rowsPure grs
      have hxi5 := dinTS ts hpx hxi
      cases hxi5 with
      | @tup rx xr _ hxT hxA =>
      have hci := cntIn (r := i) mxi
      have li : (inner d).length ≤ 2 := by
        rcases gKinds gd with ⟨b, s, rfl⟩ | ⟨w, rfl⟩ | ⟨r2, w, a, b, e, rfl, ga, gb⟩ | ⟨r2, w, ws, b, e, rfl, gb⟩
        · rw [in_put]; decide
        · rw [in_say]; decide
        · rw [in_if]; simp
        · rw [in_loop]; simp
      refine ⟨_, _, rfl, .of upd_same, rfl, _, _, rfl, _, _, rfl, rfl, ?_⟩
      have sT := sameNew (o := .tup [.int (m : Nat), .ref rx]) nT
      refine ⟨_, rfl, .inl ⟨rfl, _, .of (sT _ _ hL5)⟩, _, rfl, _, rfl, _, rfl, by show 1 ≤ sizeLine; decide, fun U nU => ?_⟩
      have sTU := Same.trans sT (sameNew (o := .tup [.int (m : Nat)]) nU)
      refine catUse (xs := nats (ahead ++ [j])) (ys := [.int (m : Nat)]) (tupS sTU (tsTup ts hpl4)) (.of upd_same) (by simp [nats]; omega) fun p0 H6 s6 hp0 => ?_
      have e5 : nats (ahead ++ [j]) ++ [V.int (m : Nat)] = nats (ahead ++ [j] ++ [m]) := by simp [nats]
      rw [e5] at hp0
      have s56 := Same.trans sTU s6
      refine ⟨many, rx, p0, xr, rs, ahead ++ [j] ++ [m], rfl, tupS s56 hxT, dinASame s56 hxA, hp0, fun y hy => ⟨r', ei, grs y hy⟩, by omega, by simp; omega, by omega, by omega, fun c1 H7 us1 n1 s7 hc1 hP7 => ?_⟩
      have s57 := Same.trans s56 s7
      have lu1 : us1.length ≤ 1000 := by
        have h1 := hP7.len
        have h2 := loP_len (plD i rs (ahead ++ [j] ++ [m]))
        rw [plLen] at h2
        omega
      have hL7 := s57 _ _ hL5
      refine ⟨L, c1, us', us1, rfl, rfl, hL7, hc1, by omega, us' ++ us1, _, _, rfl, TS.trans ts (TS.trans (tsOf s57) (tsLst hL7)), sameMut (Same.trans sm5 s57) nL, upd_same, by simp; omega, ?_⟩
      rw [flatTake exi, ← List.append_assoc, loP_app]
      exact (plcTS (TS.trans (tsOf s57) (tsLst hL7)) hP5).app (plcTS (tsLst hL7) hP7)
    · obtain ⟨us', y6, y7, rfl, ts, sm5, hL5, lus5, hP5⟩ := w
      refine ⟨us', _, _, _, _, _, rfl, sm5, hL5, ?_⟩
      rw [lw, List.take_length] at hP5
      rw [plTake ed]
      simpa [plRow, List.append_assoc] using hP5
  · obtain ⟨us, y3, y4, y5, y6, y7, rfl, sm, hL, hP⟩ := w
    rw [lA, List.take_length] at hP
    exact ⟨_, rfl, q L H' us nL sm hL hP⟩
theorem lkRows {a b : V} : List.lookup ("rows" : Str) ([(("_tops" : Str), a), (("rows" : Str), b)] : List (Str × V)) = some b := by
  have h : (("rows" : Str) == "_tops") = false := by decide +kernel
  simp [List.lookup, h]
abbrev s_Program_loops : Stmt := inClass (topS 11) 3
theorem sc_Program_loops : FnScope ["self"] ["self"] (defScope s_Program_loops) := ⟨rfl, rfl, rfl, by decide +kernel, rfl, by decide +kernel, by decide +kernel⟩

def spLoops (K : PySem.W.Frag) (C : Addr) : Sp := fun vs H Q _ => ∃ (many : Nat) (x a : Addr) (tops : List Int) (xs : List V) (rows : List D), vs = [.ref x] ∧ PrIn K H C x tops (.ref a) ∧ SqT K H a xs ∧ DinA K H xs rows ∧ (∀ d ∈ rows, GRow many 3 d) ∧ cnt 4 (.tup rows) ≤ 1000 ∧
  ∀ (p : Addr) (H' : Hp) (us : List V), H p = none → Same H H' → H' p = some (.lst us) → A2 (PlcIn K H') us (loP (plD 4 rows [])) → Q (.ref p) H'
theorem ok_loops {f C : Addr} {fd : FuncData} {k : Nat} (F : Fun K "loops" "Program.loops" s_Program_loops f fd) (cp : ClsP K C) (c__loops_among : C8.Cal P w K mg base k "_loops_among" (spLo K 4) []) : FnOk P w K mg base CX0 (k + 1) f fd ["self"] (spLoops K C) := by
  refine F.ok sc_Program_loops (fun vs H Q E h => ?_) (fun cdv A outer s H vs Q E hr h => ?_)
  · obtain ⟨many, x, a, tops, xs, rows, rfl, _⟩ := h
    rfl
  obtain ⟨many, x, a, tops, xs, rows, rfl, ⟨dx, t, hx, ht⟩, hT, hA, hg, hc, q⟩ := h
  refine ⟨_, (pss_one (ps_ret (C8.pe_c c__loops_among hr (Nat.le_refl _) (by rfl) (pa_cons (pe_fld (pv 0) rfl) (pa_cons (pe_tup pa_nil) pa_nil))))), ?_⟩
  refine ⟨_, rfl, x, C, dx, _, _, rfl, hx, cp.cl, cp.n2, lkRows, by show 0 ≤ sizeLine; decide, fun Z nZ => ?_⟩
  exact ⟨many, a, Z, xs, rows, [], rfl, tupS (sameNew nZ) hT, dinASame (sameNew nZ) hA, .of upd_same, fun d hd => ⟨3, rfl, hg d hd⟩, by decide, by simp, by decide, hc, fun p H' us np sm hp hP => q p H' us (Same.free (sameNew nZ) np) (Same.trans (sameNew nZ) sm) hp hP⟩
theorem rgc2 : ∀ m : Nat, m < 60 → RgC 1 ((1 + 2 * m : Nat) : Int) 2 m := by
  unfold RgC
  decide +kernel
theorem look_even : ∀ {d d' : D} {p : List Nat}, look1 d p = some d' → ∃ m, p.length = 2 * m
  | _, _, [], _ => ⟨0, rfl⟩
  | _, _, [_], h => by cases h
  | d, d', w :: n :: rest, h => by
    simp only [look1] at h
    cases e1 : (inner d)[w]? with
    | none => rw [e1] at h; cases h
    | some x =>
      rw [e1] at h
      simp only [Option.bind_some] at h
      cases e2 : (rowsOf x)[n]? with
      | none => rw [e2] at h; cases h
      | some y =>
        rw [e2] at h
        obtain ⟨m, hm⟩ := look_even h
        exact ⟨m + 1, by simp [hm]; omega⟩
abbrev s_Program_row : Stmt := inClass (topS 11) 2
theorem sc_Program_row : FnScope ["self", "place", "found", "at"] ["self", "place"] (defScope s_Program_row) := ⟨rfl, rfl, rfl, by decide +kernel, rfl, by decide +kernel, by decide +kernel⟩

def spRowAt (K : PySem.W.Frag) (C : Addr) : Sp := fun vs H Q _ => ∃ (many : Nat) (x a pa : Addr) (tops : List Int) (xs : List V) (rows : List D) (p : List Nat) (d : D), vs = [.ref x, .ref pa] ∧ PrIn K H C x tops (.ref a) ∧ SqT K H a xs ∧ DinA K H xs rows ∧ (∀ d ∈ rows, GRow many 3 d) ∧ SqT K H pa (nats p) ∧ lookR rows p = some d ∧ p.length ≤ 100 ∧
  ∀ (H' : Hp) (v : V), Same H H' → Din K H' v d → Q v H'
theorem ok_row {f C : Addr} {fd : FuncData} {k : Nat} (F : Fun K "row" "Program.row" s_Program_row f fd) (B : Bl mg) (cp : ClsP K C) (c_rows_within : C8.Cal P w K mg base k "rows_within" (spWithin K) []) : FnOk P w K mg base CX0 (k + 1) f fd ["self", "place"] (spRowAt K C) := by
  refine F.ok sc_Program_row (fun vs H Q E h => ?_) (fun cdv A outer s H vs Q E hr h => ?_)
  · obtain ⟨many, x, a, pa, tops, xs, rows, p, d, rfl, _⟩ := h
    rfl
  obtain ⟨many, x, a, pa, tops, xs, rows, p, d, rfl, ⟨dx, t, hx, ht⟩, hT, hA, hg, hp, hl, hpl, q⟩ := h
  refine ⟨_, (pss_cons (ps_set (i := 2) sc_Program_row.nd rfl (.inl rfl) (pe_ix (kIxT (K := K) rfl) (pe_fld (pv 0) rfl) (pe_ix (kIxT (K := K) rfl) (pv 1) pe_int (fun _ _ => rfl)) (fun _ _ => rfl)))
    (pss_cons (ps_for PassesOwn.never rfl (pi_range3 (by rfl) B.range (pa_cons pe_int (pa_cons (pe_callB (kLen (K := K) rfl) (by rfl) B.len PySem.boot_len (pa_cons (pv 1) pa_nil)) (pa_cons pe_int pa_nil)))) (pg_name (i := 3) sc_Program_row.nd rfl (.inl rfl))
      (pss_one (ps_set (i := 2) sc_Program_row.nd rfl (.inl rfl) (pe_ix (kIxT (K := K) rfl) (pe_ix (kIxT (K := K) rfl) (C8.pe_c c_rows_within hr (Nat.le_refl _) (by rfl) (pa_cons (pv 2) pa_nil)) (pe_ix (kIxT (K := K) rfl) (pv 1) (pv 3) (fun _ _ => rfl)) (fun _ _ => rfl)) (pe_ix (kIxT (K := K) rfl) (pv 1) (pe_op op_add (pv 3) pe_int) (fun _ _ => rfl)) (fun _ _ => rfl)))))
    (pss_one (ps_ret (pv 2))))), ?_⟩
  cases p with
  | nil => cases hl
  | cons n rest =>
  obtain ⟨d0, ed0, hl1⟩ : ∃ d0, rows[n]? = some d0 ∧ look1 d0 rest = some d := by
    simp only [lookR] at hl
    cases e : rows[n]? with
    | none => rw [e] at hl; cases hl
    | some d0 => rw [e] at hl; exact ⟨d0, rfl, hl⟩
  obtain ⟨v0, ev0, hd0⟩ := dinAtD hA ed0
  obtain ⟨m, hm⟩ := look_even hl1
  refine ⟨_, rfl, x, C, dx, _, _, rfl, hx, cp.cl, cp.n2, lkRows, _, rfl, _, _, _, _, rfl, rfl, hp, atI_nat (j := 0) rfl, _, _, _, _, rfl, rfl, hT, atI_nat ev0, ?_⟩
  have ln : (nats (n :: rest)).length = 1 + 2 * m := by simp [nats, hm]; omega
  simp only [List.length_cons] at hpl
  refine ⟨_, rfl, _, _, rfl, .inr hp, 1, _, 2, m, rfl, by rw [ln]; exact rgc2 m (by omega), ?_⟩
  refine for_rangeC (lo := 1) (c := 2) (n := m) (fun i σ H' => ∃ (v : V) (di : D) (r : Nat) (y3 : Option V), σ = [some (.ref x), some (.ref pa), some v, y3] ∧ Same H H' ∧ Din K H' v di ∧ look1 di (rest.drop (2 * i)) = some d ∧ GRow many r di)
    ⟨v0, d0, 3, none, rfl, Same.refl _, hd0, by simpa using hl1, hg d0 (List.mem_of_getElem? ed0)⟩ (fun i σ H' hi w => ?_) (fun σ H' w => ?_)
  · obtain ⟨v, di, r, y3, rfl, sm, hv, hlk, gi⟩ := w
    obtain ⟨w', n', r', er⟩ : ∃ w' n' r', rest.drop (2 * i) = w' :: n' :: r' := by
      have : (rest.drop (2 * i)).length = 2 * (m - i) := by rw [List.length_drop, hm]; omega
      cases e : rest.drop (2 * i) with
      | nil => rw [e] at this; simp at this; omega
      | cons a t =>
        cases t with
        | nil => rw [e] at this; simp at this; omega
        | cons b t => exact ⟨a, b, t, rfl⟩
    rw [er] at hlk
    have g0 : rest[2 * i]? = some w' := by
      have := congrArg (fun l => l[0]?) er
      simpa using this
    have g1 : rest[2 * i + 1]? = some n' := by
      have := congrArg (fun l => l[1]?) er
      simpa using this
    obtain ⟨z, ez, hl2⟩ : ∃ z, (inner di)[w']? = some z ∧ ((rowsOf z)[n']?).bind (fun d' => look1 d' r') = some d := by
      simp only [look1] at hlk
      cases e : (inner di)[w']? with
      | none => rw [e] at hlk; cases hlk
      | some z => rw [e] at hlk; exact ⟨z, rfl, hlk⟩
    obtain ⟨r2, rs, e2, rfl, grs⟩ := innerPure gi (List.mem_of_getElem? ez)
    obtain ⟨d', ed', hl3⟩ : ∃ d', rs[n']? = some d' ∧ look1 d' r' = some d := by
      simp only [rowsOf] at hl2
      cases e : rs[n']? with
      | none => rw [e] at hl2; cases hl2
      | some d' => rw [e] at hl2; exact ⟨d', rfl, hl2⟩
    have a0 : (nats (n :: rest))[1 + 2 * i]? = some (.int (w' : Nat)) := natsAt (by rw [show 1 + 2 * i = 2 * i + 1 by omega, List.getElem?_cons_succ]; exact g0)
    have a1 : (nats (n :: rest))[1 + 2 * i + 1]? = some (.int (n' : Nat)) := natsAt (by rw [show 1 + 2 * i + 1 = (2 * i + 1) + 1 by omega, List.getElem?_cons_succ]; exact g1)
    refine ⟨_, rfl, v, di, many, rfl, hv, gi.1, fun pw ws H4 npw s4 epw hws => ?_⟩
    obtain ⟨vz, evz, hz⟩ := dinAtD hws ez
    cases hz with
    | @tup rz xz _ hzT hzA =>
    obtain ⟨vd, evd, hvd⟩ := dinAtD hzA ed'
    have hp4 := tupS (Same.trans sm s4) hp
    refine ⟨_, rfl, _, rfl, _, _, _, _, rfl, rfl, hp4, (by rw [show (1 : Int) + (i : Int) * 2 = ((1 + 2 * i : Nat) : Int) by omega]; exact atI_nat a0), _, _, _, _, rfl, rfl, .of epw, atI_nat evz, ?_⟩
    refine ⟨_, rfl, _, rfl, _, _, rfl, rfl, _, _, _, _, rfl, rfl, hp4, (by rw [show (1 : Int) + (i : Int) * 2 + 1 = ((1 + 2 * i + 1 : Nat) : Int) by omega]; exact atI_nat a1), _, _, _, _, rfl, rfl, hzT, atI_nat evd, ?_⟩
    refine ⟨vd, d', r2, _, rfl, Same.trans sm s4, hvd, ?_, grs d' (List.mem_of_getElem? ed')⟩
    have : rest.drop (2 * (i + 1)) = r' := by
      rw [show 2 * (i + 1) = 2 * i + 2 by omega, ← List.drop_drop, er]
      rfl
    rw [this]
    exact hl3
  · obtain ⟨v, di, r, y3, rfl, sm, hv, hlk, gi⟩ := w
    rw [List.drop_of_length_le (by omega)] at hlk
    cases hlk
    exact ⟨_, rfl, q H' v sm hv⟩

end

end LW

namespace LW
open PySem PySem.Spec PyProof.Rows L2
local macro_rules | `(tactic| walk_at "go1") => `(tactic| first
  | refine ⟨_, rfl, ?_⟩
  | refine ⟨_, _, rfl, rfl, ?_⟩
  | refine ⟨show (0 : Int) < _ from by omega, ?_⟩
  | refine ⟨show CMul _ _ from by first | exact .inl ⟨by omega, by omega⟩ | exact .inr ⟨by omega, by omega⟩, ?_⟩
  | refine ⟨show CDiv _ _ from ⟨by omega, by omega⟩, ?_⟩)
local macro_rules | `(tactic| walk_at "go") => `(tactic| repeat walk_at "go1")

section
variable {P : Program} {w : World} {K : PySem.W.Frag} {mg : Str → Option Value} {base : Heap}

theorem cutNeg {xs ys : List V} {n : Nat} (hl : ys.length = n + 1) : cutV (xs ++ ys) none (some (-((n + 1 : Nat) : Int))) = xs := by
  unfold cutV
  rw [HT.sIx_none, List.drop_zero, Nat.sub_zero]
  show (xs ++ ys).take (if -((n + 1 : Nat) : Int) < 0 then (-((n + 1 : Nat) : Int) + ((xs ++ ys).length : Int)).toNat else _) = xs
  rw [if_pos (by omega), List.length_append, hl]
  have : (-((n + 1 : Nat) : Int) + ((xs.length + (n + 1) : Nat) : Int)).toNat = xs.length := by omega
  rw [this, List.take_left]
theorem cutNeg2 {xs : List V} {y z : V} : cutV (xs ++ [y, z]) none (some (-2)) = xs := cutNeg (n := 1) rfl
theorem cutNeg1 {xs : List V} {y : V} : cutV (xs ++ [y]) none (some (-1)) = xs := cutNeg (n := 0) rfl
theorem atNeg {xs : List V} {y : V} : atI (xs ++ [y]) (-1) = some y := by
  unfold atI ixN
  rw [if_neg (by omega), if_pos (by simp; omega), Option.bind_some]
  have : (-1 + ((xs ++ [y]).length : Int)).toNat = xs.length := by simp; omega
  rw [this]
  simp
theorem atNeg2 {xs : List V} {y z : V} : atI (xs ++ [y, z]) (-2) = some y := by
  unfold atI ixN
  rw [if_neg (by omega), if_pos (by simp; omega)]
  have : (-2 + ((xs ++ [y, z]).length : Int)).toNat = xs.length := by simp; omega
  rw [Option.bind_some, this]
  simp
theorem natsApp (a b : List Nat) : nats (a ++ b) = nats a ++ nats b := by simp [nats]
/-- a program of rows R -/
def PgIn (K : PySem.W.Frag) (H : Hp) (C x : Addr) (tops : List Int) (R : Rs) : Prop := ∃ a xs, PrIn K H C x tops (.ref a) ∧ SqT K H a xs ∧ DinA K H xs R.ds ∧ (∀ d ∈ R.ds, GRow tops.length 3 d) ∧ R.W tops.length ∧ R.dep ≤ 3 ∧ R.num ≤ 12 ∧ TopsW tops
theorem prS {H H' : Hp} {C x : Addr} {tops : List Int} {rv : V} (e : Same H H') (h : PrIn K H C x tops rv) : PrIn K H' C x tops rv := by
  obtain ⟨dx, t, h1, h2⟩ := h
  exact ⟨dx, t, e _ _ h1, tupS e h2⟩
theorem PgIn.same {H H' : Hp} {C x : Addr} {tops : List Int} {R : Rs} (e : Same H H') (h : PgIn K H C x tops R) : PgIn K H' C x tops R := by
  obtain ⟨a, xs, h1, h2, h3, h4⟩ := h
  exact ⟨a, xs, prS e h1, tupS e h2, dinASame e h3, h4⟩
theorem PgIn.obj {H : Hp} {C x : Addr} {tops : List Int} {R : Rs} (h : PgIn K H C x tops R) : ∃ dx t a, H x = some (.ins C dx [("_tops", .ref t), ("rows", .ref a)]) := by
  obtain ⟨a, xs, ⟨dx, t, h1, _⟩, _⟩ := h
  exact ⟨dx, t, a, h1⟩
theorem lkRow {a b : V} : List.lookup ("row" : Str) ([(("_tops" : Str), a), (("rows" : Str), b)] : List (Str × V)) = none := by
  have h1 : (("row" : Str) == ("_tops" : Str)) = false := by decide +kernel
  have h2 : (("row" : Str) == ("rows" : Str)) = false := by decide +kernel
  simp [List.lookup, h1, h2]
theorem rowOk_hd {many : Nat} {rs : Rs} (h : rs.W many) (n : rs.isNil = false) : rowOk many rs.hd = true := by
  have kd : ("put" : Str) ≠ "if" ∧ ("put" : Str) ≠ "loop" ∧ ("say" : Str) ≠ "if" ∧ ("say" : Str) ≠ "loop" ∧ ("loop" : Str) ≠ "if" ∧ ("if" : Str) ≠ "loop" ∧ ("say" : Str) ≠ "put" ∧ ("if" : Str) ≠ "put" ∧ ("loop" : Str) ≠ "put" ∧ ("if" : Str) ≠ "say" ∧ ("loop" : Str) ≠ "say" := by decide +kernel
  cases rs with
  | nil => cases n
  | put b s t => exact (put_row (r := 0) (by omega) (by have := h.1; omega) h.2.1).1
  | say w t => exact (say_row (r := 0) h.1).1
  | ite w a b t => simp [Rs.hd, rowOk, restOk, kd, sumOk_of h.1]
  | loop w ws b t =>
    have : wordsOk many (.tup (ws.map dSm)) = true := by
      simp only [wordsOk, List.length_map, List.all_map, Bool.and_eq_true, decide_eq_true_eq, List.all_eq_true]
      exact ⟨h.2.2.1, fun x hx => sumOk_of (h.2.1 x hx)⟩
    simp [Rs.hd, rowOk, restOk, kd, sumOk_of h.1, this]
theorem At.short {tops : List Int} {R : Rs} {ah : List Nat} {i : Nat} {rs : Rs} {fr : Fr} (hd : R.dep ≤ 3) (h : At R ah i rs fr) : ah.length ≤ 6 := by
  have := h.deep
  omega
/-- program.row at a position -/
theorem rowSp {H : Hp} {Q : VK} {E : XK} {C x pa : Addr} {tops : List Int} {R : Rs} {ah : List Nat} {i : Nat} {rs : Rs} {fr : Fr} (h : PgIn K H C x tops R) (a : At R ah i rs fr) (n : rs.isNil = false) (hp : SqT K H pa (nats (ah ++ [i])))
    (q : ∀ (H' : Hp) (v : V), Same H H' → Din K H' v rs.hd → Q v H') : spRowAt K C [.ref x, .ref pa] H Q E := by
  obtain ⟨a0, xs, h1, h2, h3, h4, h5, h6, h7, h8⟩ := h
  have := At.short (tops := tops) h6 a
  exact ⟨tops.length, x, a0, pa, tops, xs, R.ds, ah ++ [i], rs.hd, rfl, h1, h2, h3, h4, hp, a.row n, by simp; omega, q⟩
abbrev s__rows_around : Stmt := topS 29
theorem sc__rows_around : FnScope ["program", "place"] ["program", "place"] (defScope s__rows_around) := ⟨rfl, rfl, rfl, by decide +kernel, rfl, by decide +kernel, by decide +kernel⟩

def spAround (K : PySem.W.Frag) (C : Addr) : Sp := fun vs H Q _ => ∃ (x pa : Addr) (tops : List Int) (R : Rs) (ah : List Nat) (i : Nat) (rs : Rs) (fr : Fr), vs = [.ref x, .ref pa] ∧ PgIn K H C x tops R ∧ At R ah i rs fr ∧ rs.isNil = false ∧ SqT K H pa (nats (ah ++ [i])) ∧
  ∀ (H' : Hp) (r : Addr) (ws : List V), Same H H' → SqT K H' r ws → ws.length = i + rs.ds.length → Q (.ref r) H'
theorem ok__rows_around {f C : Addr} {fd : FuncData} {k : Nat} (F : Fun K "_rows_around" "_rows_around" s__rows_around f fd) (B : Bl mg) (cp : ClsP K C) (qcl : Cls K C) (q_row : CalM P w K mg base k C "row" (spRowAt K C)) (c_rows_within : C8.Cal P w K mg base k "rows_within" (spWithin K) []) : FnOk P w K mg base CX0 (k + 1) f fd ["program", "place"] (spAround K C) := by
  refine F.ok sc__rows_around (fun vs H Q E h => ?_) (fun cdv A outer s H vs Q E hr h => ?_)
  · obtain ⟨x, pa, tops, R, ah, i, rs, fr, rfl, _⟩ := h
    rfl
  obtain ⟨x, pa, tops, R, ah, i, rs, fr, rfl, hP, hA, n, hp, q⟩ := h
  refine ⟨_, (pss_cons (ps_if (pt_cmpR op_eq (pe_callB (kLen (K := K) rfl) (by rfl) B.len PySem.boot_len (pa_cons (pv 1) pa_nil)) pe_int (nomark _))
      (pss_one (ps_ret (pe_fld (pv 0) rfl)))
      pss_nil)
    (pss_one (ps_ret (pe_ix (kIxT (K := K) rfl) (C8.pe_c c_rows_within hr (Nat.le_refl _) (by rfl) (pa_cons (pM q_row qcl hr (by omega) (pv 0) (pa_cons (pe_slice (kSlT (K := K) rfl) (pv 1) po_none (po_some (pe_un un_neg pe_int))) pa_nil)) pa_nil)) (pe_ix (kIxT (K := K) rfl) (pv 1) (pe_un un_neg pe_int) (fun _ _ => rfl)) (fun _ _ => rfl))))), ?_⟩
  have ld : ∀ {blk : List D}, blk.drop i = rs.ds → i ≤ blk.length → blk.length = i + rs.ds.length := fun {blk} hdr hil => by
    have := congrArg List.length hdr
    simp at this
    omega
  have top : ∀ (ah2 : List Nat) (j g : Nat) (rs2 : Rs) (fr2 : Fr) (blk : List D), ah = ah2 ++ [j, g] → At R ah2 j rs2 fr2 → rs2.isNil = false → (inner rs2.hd)[g]? = some (.tup blk) → blk.length = i + rs.ds.length →
      tNext { nx := tRet (tOp (rIxT K) (tCall (spWithin K) [] C8.E0 (tCons (tMeth C "row" (spRowAt K C) [] C8.E0 (tVar 0) (tCons (tSl (rSlA K) (tVar 1) tNoPart (tPart (tUn (rU fun i => .int (-i)) (tC (.int 2))))) tNil)) tNil)) (tOp (rIxT K) (tVar 1) (tUn (rU fun i => .int (-i)) (tC (.int 2))))) { nx := fun x H' => Q .non H', rt := Q }, rt := Q } (L2.start ["program", "place"] [.ref x, .ref pa]) H := by
    intro ah2 j g rs2 fr2 blk e hA2 n2 hin lb
    obtain ⟨dx, t, a, hx⟩ := hP.obj
    have en : nats (ah ++ [i]) = nats (ah2 ++ [j]) ++ [.int (g : Nat), .int (i : Nat)] := by rw [e]; simp [nats]
    have ok := rowOk_hd (hA2.w hP.choose_spec.choose_spec.2.2.2.2.1) n2
    rw [en] at hp
    refine ⟨_, rfl, x, dx, _, rfl, hx, lkRow, _, rfl, _, rfl, _, rfl, slUse hp fun p2 H1 s1 hp2 => ?_⟩
    rw [cutNeg2] at hp2
    refine rowSp (E := C8.E0) (hP.same s1) hA2 n2 hp2 fun H2 v s2 hv => ⟨v, rs2.hd, tops.length, rfl, hv, ok, fun pw ws H3 npw s3 epw hws => ?_⟩
    obtain ⟨vz, evz, hz⟩ := dinAtD hws hin
    cases hz with
    | @tup rz xz _ hzT hzA =>
    have s13 := Same.trans s1 (Same.trans s2 s3)
    refine ⟨_, rfl, _, rfl, _, _, _, _, rfl, rfl, tupS s13 hp, atNeg2, _, _, _, _, rfl, rfl, .of epw, atI_nat evz, ?_⟩
    exact q _ _ _ s13 hzT (by rw [hzA.len, lb])
  refine ⟨_, rfl, _, _, rfl, .inr hp, rfl, _, rfl, ?_⟩
  have e1 : ∀ {ah2 : List Nat} {j g : Nat}, ah = ah2 ++ [j, g] → ¬ (V.int ((nats (ah ++ [i])).length : Nat) = V.int 1) := fun e z => by
    injection z with z
    rw [e] at z
    simp [nats] at z
    omega
  cases fr with
  | top =>
    obtain ⟨rfl, h2, h3⟩ := hA.enc
    refine iteT ?_
    obtain ⟨a, xs, ⟨dx, t, hx, ht⟩, g2, g3, _⟩ := hP
    refine ⟨_, rfl, x, C, dx, _, _, rfl, hx, cp.cl, cp.n2, lkRows, q H a xs (Same.refl _) g2 ?_⟩
    rw [g3.len, ld h2 h3]
  | ifF ah2 i2 t up =>
    obtain ⟨w, a, b, j, g, blk, _, e, hA2, hg, h5, h6⟩ := hA.enc
    rw [decide_eq_false (e1 e)]
    refine iteF (top ah2 j g _ _ blk.ds e hA2 rfl ?_ (ld h5 h6))
    rcases hg with ⟨rfl, rfl⟩ | ⟨rfl, rfl⟩
    · rw [Rs.hd, in_if]; rfl
    · rw [Rs.hd, in_if]; rfl
  | loopF ah2 i2 w ws b t up =>
    obtain ⟨e, hA2, h5, h6⟩ := hA.enc
    rw [decide_eq_false (e1 e)]
    refine iteF (top ah2 i2 0 _ _ b.ds e hA2 rfl ?_ (ld h5 h6))
    rw [Rs.hd, in_loop]; rfl
/-- the place of a position, or None -/
def PlO (K : PySem.W.Frag) (H : Hp) (v : V) : Option Pos' → Prop
  | none => v = .non
  | some p => ∃ pa, v = .ref pa ∧ SqT K H pa (nats (p.ah ++ [p.i]))
theorem PlO.same {H H' : Hp} {v : V} {o : Option Pos'} (e : Same H H') (h : PlO K H v o) : PlO K H' v o := by
  cases o with
  | none => exact h
  | some p =>
    obtain ⟨pa, e0, h1⟩ := h
    exact ⟨pa, e0, tupS e h1⟩
abbrev s_behind : Stmt := topS 26
theorem sc_behind : FnScope ["program", "place"] ["program", "place"] (defScope s_behind) := ⟨rfl, rfl, rfl, by decide +kernel, rfl, by decide +kernel, by decide +kernel⟩

def spBehind (K : PySem.W.Frag) (C : Addr) : Sp := fun vs H Q _ => ∃ (x pa : Addr) (tops : List Int) (R : Rs) (ah : List Nat) (i : Nat) (rs : Rs) (fr : Fr), vs = [.ref x, .ref pa] ∧ PgIn K H C x tops R ∧ At R ah i rs fr ∧ rs.isNil = false ∧ SqT K H pa (nats (ah ++ [i])) ∧
  ∀ (H' : Hp) (v : V), Same H H' → PlO K H' v (norm fr rs.tl ah (i + 1)) → Q v H'
theorem ok_behind {f C : Addr} {fd : FuncData} {k : Nat} (F : Fun K "behind" "behind" s_behind f fd) (B : Bl mg) (qcl : Cls K C) (q_row : CalM P w K mg base k C "row" (spRowAt K C)) (c__rows_around : C8.Cal P w K mg base k "_rows_around" (spAround K C) []) : FnOk P w K mg base CX0 (k + 1) f fd ["program", "place"] (spBehind K C) := by
  refine F.ok sc_behind (fun vs H Q E h => ?_) (fun cdv A outer s H vs Q E hr h => ?_)
  · obtain ⟨x, pa, tops, R, ah, i, rs, fr, rfl, _⟩ := h
    rfl
  obtain ⟨x, pa, tops, R, ah, i, rs, fr, rfl, hP, hA, n, hp, q⟩ := h
  refine ⟨_, (pss_one (ps_while PassesOwn.never (pt_val pe_bl)
      (pss_cons (ps_if (pt_cmpR op_lt (pe_op op_add (pe_ix (kIxT (K := K) rfl) (pv 1) (pe_un un_neg pe_int) (fun _ _ => rfl)) pe_int) (pe_callB (kLen (K := K) rfl) (by rfl) B.len PySem.boot_len (pa_cons (C8.pe_c c__rows_around hr (Nat.le_refl _) (by rfl) (pa_cons (pv 0) (pa_cons (pv 1) pa_nil))) pa_nil)) (nomark _))
        (pss_one (ps_ret (pe_op (kCatT (K := K) rfl) (pe_slice (kSlT (K := K) rfl) (pv 1) po_none (po_some (pe_un un_neg pe_int))) (pe_tup (pa_cons (pe_op op_add (pe_ix (kIxT (K := K) rfl) (pv 1) (pe_un un_neg pe_int) (fun _ _ => rfl)) pe_int) pa_nil)))))
        pss_nil)
      (pss_cons (ps_if (pt_cmpR op_eq (pe_callB (kLen (K := K) rfl) (by rfl) B.len PySem.boot_len (pa_cons (pv 1) pa_nil)) pe_int (nomark _))
        (pss_one (ps_ret pe_non))
        pss_nil)
      (pss_cons (ps_set (i := 1) sc_behind.nd rfl (.inl rfl) (pe_slice (kSlT (K := K) rfl) (pv 1) po_none (po_some (pe_un un_neg pe_int))))
      (pss_one (ps_if (pt_cmpR op_eq (pe_ix (kIxT (K := K) rfl) (pM q_row qcl hr (by omega) (pv 0) (pa_cons (pv 1) pa_nil)) pe_int (fun _ _ => rfl)) pe_str (nomark _))
        (pss_one (ps_ret (pv 1)))
        pss_nil))))))), ?_⟩
  obtain ⟨G, hG⟩ : ∃ G, G = norm fr rs.tl ah (i + 1) := ⟨_, rfl⟩
  rw [← hG] at q
  refine ⟨fun m σ H' => ∃ (pa : Addr) (ah : List Nat) (i : Nat) (rs : Rs) (fr : Fr), σ = [some (.ref x), some (.ref pa)] ∧ Same H H' ∧ At R ah i rs fr ∧ rs.isNil = false ∧ SqT K H' pa (nats (ah ++ [i])) ∧ G = norm fr rs.tl ah (i + 1) ∧ ah.length = m,
    ⟨_, pa, ah, i, rs, fr, rfl, Same.refl _, hA, n, hp, hG, rfl⟩, ?_⟩
  clear hA n hp hG pa ah i rs fr
  rintro m σ H1 ⟨pa, ah, i, rs, fr, rfl, sm, hA, n, hp, hG, hm⟩
  have hP1 := hP.same sm
  refine ⟨true, rfl, iteT ⟨_, fun σ' H' z => z, ?_⟩⟩
  have en : nats (ah ++ [i]) = nats ah ++ [.int (i : Nat)] := natsApp _ _
  rw [en] at hp
  have hsh := At.short (tops := tops) (by obtain ⟨_, _, _, _, _, _, _, h, _⟩ := hP; exact h) hA
  -- place[-1] + 1 < len(_rows_around(program, place))
  refine ⟨_, rfl, _, rfl, _, _, _, _, rfl, rfl, hp, atNeg, _, _, rfl, rfl, _, rfl, _, rfl, x, pa, tops, R, ah, i, rs, fr, rfl, hP1, hA, n, by rw [en]; exact hp, fun H2 r ws s2 hr hw => ?_⟩
  refine ⟨_, _, rfl, .inr hr, _, _, rfl, rfl, _, rfl, ?_⟩
  have sm2 := Same.trans sm s2
  rw [hw, Rs.ds_hd n, List.length_cons]
  have hp2 := tupS s2 hp
  refine yesDec (fun c => ?_) (fun c => ?_)
  · -- there is a next one
    have nt : rs.tl.isNil = false := by
      cases e : rs.tl with
      | nil =>
        rw [e] at c
        simp [Rs.ds] at c
      | _ => rfl
    refine ⟨_, rfl, _, rfl, _, rfl, slUse hp2 fun p2 H3 s3 hp3 => ?_⟩
    rw [cutNeg1] at hp3
    have hp23 := tupS s3 hp2
    refine ⟨_, rfl, _, rfl, _, _, _, _, rfl, rfl, hp23, atNeg, _, _, rfl, rfl, by show 1 ≤ sizeLine; decide, fun U nU => ?_⟩
    have sU := sameNew (o := .tup [.int ((i : Nat) + 1 : Int)]) nU
    refine catUse (tupS sU hp3) (.of upd_same) (by simp [nats]; omega) fun r5 H5 s5 h5 => ?_
    refine q H5 _ (Same.trans sm2 (Same.trans s3 (Same.trans sU s5))) ?_
    rw [hG, norm_here nt]
    refine ⟨r5, rfl, ?_⟩
    have e : nats (ah ++ [i + 1]) = nats ah ++ [.int ((i : Nat) + 1 : Int)] := by simp [nats]
    rw [e]
    exact h5
  · have ht : rs.tl = .nil := by
      cases e : rs.tl with
      | nil => rfl
      | _ => rw [e] at c; simp [Rs.ds] at c; omega
    refine ⟨_, rfl, _, _, rfl, .inr hp2, rfl, _, rfl, ?_⟩
    cases fr with
    | top =>
      obtain ⟨rfl, _, _⟩ := hA.enc
      refine iteT ?_
      refine q _ _ sm2 ?_
      rw [hG, ht]
      exact rfl
    | ifF ah2 i2 t up =>
      obtain ⟨w, a, b, j, g, blk, rfl, rfl, hA2, hg, h5, h6⟩ := hA.enc
      have e1 : ¬ (V.int ((nats (ah2 ++ [j, g]) ++ [V.int (i : Nat)]).length : Nat) = V.int 1) := fun z => by
        injection z with z
        simp [nats] at z
        omega
      rw [decide_eq_false e1]
      refine iteF ?_
      refine ⟨_, rfl, _, rfl, _, rfl, slUse hp2 fun p2 H3 s3 hp3 => ?_⟩
      have e2 : nats (ah2 ++ [j, g]) ++ [V.int (i : Nat)] = nats (ah2 ++ [j]) ++ [.int (g : Nat), .int (i : Nat)] := by simp [nats]
      rw [e2, cutNeg2] at hp3
      have sm3 := Same.trans sm2 s3
      obtain ⟨dx, tt, aa, hx⟩ := (hP.same sm3).obj
      refine ⟨_, rfl, x, dx, _, rfl, hx, lkRow, _, rfl, rowSp (E := C8.E0) (hP.same sm3) hA2 rfl hp3 fun H4 v s4 hv => ?_⟩
      cases hv with
      | @tup ra _ _ hR hRA =>
      cases hRA with
      | cons h0 hA1 =>
      cases h0
      refine ⟨_, _, _, _, rfl, rfl, hR, atI_nat (j := 0) rfl, rfl, _, rfl, ?_⟩
      refine yesDec (fun c => absurd (strEq.mp c) (by decide +kernel)) (fun c => ?_)
      refine ⟨_, ?_, p2, ah2, j, _, _, rfl, Same.trans sm3 s4, hA2, rfl, tupS s4 hp3, ?_, rfl⟩
      · rw [← hm]
        simp
      · rw [hG, ht]
        rfl
    | loopF ah2 j w ws b t up =>
      obtain ⟨rfl, hA2, h5, h6⟩ := hA.enc
      have e1 : ¬ (V.int ((nats (ah2 ++ [j, 0]) ++ [V.int (i : Nat)]).length : Nat) = V.int 1) := fun z => by
        injection z with z
        simp [nats] at z
        omega
      rw [decide_eq_false e1]
      refine iteF ?_
      refine ⟨_, rfl, _, rfl, _, rfl, slUse hp2 fun p2 H3 s3 hp3 => ?_⟩
      have e2 : nats (ah2 ++ [j, 0]) ++ [V.int (i : Nat)] = nats (ah2 ++ [j]) ++ [.int ((0 : Nat) : Int), .int (i : Nat)] := by simp [nats]
      rw [e2, cutNeg2] at hp3
      have sm3 := Same.trans sm2 s3
      obtain ⟨dx, tt, aa, hx⟩ := (hP.same sm3).obj
      refine ⟨_, rfl, x, dx, _, rfl, hx, lkRow, _, rfl, rowSp (E := C8.E0) (hP.same sm3) hA2 rfl hp3 fun H4 v s4 hv => ?_⟩
      cases hv with
      | @tup ra _ _ hR hRA =>
      cases hRA with
      | cons h0 hA1 =>
      cases h0
      refine ⟨_, _, _, _, rfl, rfl, hR, atI_nat (j := 0) rfl, rfl, _, rfl, ?_⟩
      refine yesDec (fun c => ?_) (fun c => absurd (strEq.mpr rfl) c)
      refine ⟨_, rfl, q _ _ (Same.trans sm3 s4) ?_⟩
      rw [hG, ht]
      exact ⟨p2, rfl, tupS s4 hp3⟩
abbrev s_beginning : Stmt := topS 27
theorem sc_beginning : FnScope ["program"] ["program"] (defScope s_beginning) := ⟨rfl, rfl, rfl, by decide +kernel, rfl, by decide +kernel, by decide +kernel⟩

def spBegin (K : PySem.W.Frag) (C : Addr) : Sp := fun vs H Q _ => ∃ (x : Addr) (tops : List Int) (R : Rs), vs = [.ref x] ∧ PgIn K H C x tops R ∧ ∀ (H' : Hp) (v : V), Same H H' → PlO K H' v (norm .top R [] 0) → Q v H'
theorem ok_beginning {f C : Addr} {fd : FuncData} {k : Nat} (F : Fun K "beginning" "beginning" s_beginning f fd) (B : Bl mg) (cp : ClsP K C) : FnOk P w K mg base CX0 (k + 1) f fd ["program"] (spBegin K C) := by
  refine F.ok sc_beginning (fun vs H Q E h => ?_) (fun cdv A outer s H vs Q E hr h => ?_)
  · obtain ⟨x, tops, R, rfl, _⟩ := h
    rfl
  obtain ⟨x, tops, R, rfl, hP, q⟩ := h
  refine ⟨_, (pss_one (ps_ret (pe_ifExp (pt_cmpR op_gt (pe_callB (kLen (K := K) rfl) (by rfl) B.len PySem.boot_len (pa_cons (pe_fld (pv 0) rfl) pa_nil)) pe_int (nomark _)) (pe_tup (pa_cons pe_int pa_nil)) pe_non))), ?_⟩
  obtain ⟨a, xs, ⟨dx, t, hx, ht⟩, g2, g3, _⟩ := hP
  refine ⟨_, rfl, x, C, dx, _, _, rfl, hx, cp.cl, cp.n2, lkRows, _, _, rfl, .inr g2, _, _, rfl, rfl, _, rfl, ?_⟩
  rw [g3.len]
  cases e : R.isNil with
  | true =>
    cases R with
    | nil => exact iteF (q _ _ (Same.refl _) rfl)
    | _ => cases e
  | false =>
    have hl : (0 : Int) < (R.ds.length : Nat) := by
      rw [Rs.ds_hd e, List.length_cons]
      omega
    rw [decide_eq_true hl]
    refine iteT ⟨by show 1 ≤ sizeLine; decide, fun p np => ?_⟩
    refine q _ _ (sameNew np) ?_
    rw [norm_here e]
    exact ⟨p, rfl, .of upd_same⟩

end

end LW

namespace LW
open PySem PySem.Spec PyProof.Rows L2
local macro_rules | `(tactic| walk_at "go1") => `(tactic| first
  | refine ⟨_, rfl, ?_⟩
  | refine ⟨_, _, rfl, rfl, ?_⟩
  | refine ⟨show (0 : Int) < _ from by omega, ?_⟩
  | refine ⟨show CMul _ _ from by first | exact .inl ⟨by omega, by omega⟩ | exact .inr ⟨by omega, by omega⟩, ?_⟩
  | refine ⟨show CDiv _ _ from ⟨by omega, by omega⟩, ?_⟩)
local macro_rules | `(tactic| walk_at "go") => `(tactic| repeat walk_at "go1")

section
variable {P : Program} {w : World} {K : PySem.W.Frag} {mg : Str → Option Value} {base : Heap}

abbrev s_beyond : Stmt := topS 28
theorem sc_beyond : FnScope ["program", "place", "holds", "row", "which", "groups"] ["program", "place", "holds"] (defScope s_beyond) := ⟨rfl, rfl, rfl, by decide +kernel, rfl, by decide +kernel, by decide +kernel⟩

def spBeyond (K : PySem.W.Frag) (C : Addr) : Sp := fun vs H Q _ => ∃ (x pa : Addr) (tops : List Int) (R : Rs) (p : Pos') (h : Bool), vs = [.ref x, .ref pa, .bl h] ∧ PgIn K H C x tops R ∧ At R p.ah p.i p.rs p.fr ∧ ((∃ w a b t, p.rs = .ite w a b t) ∨ ∃ w ws b t, p.rs = .loop w ws b t) ∧ SqT K H pa (nats (p.ah ++ [p.i])) ∧
  ∀ (H' : Hp) (v : V), Same H H' → PlO K H' v (p.go h) → Q v H'
theorem ok_beyond {f C : Addr} {fd : FuncData} {k : Nat} (F : Fun K "beyond" "beyond" s_beyond f fd) (B : Bl mg) (qcl : Cls K C) (q_row : CalM P w K mg base k C "row" (spRowAt K C)) (c_rows_within : C8.Cal P w K mg base k "rows_within" (spWithin K) []) (c_behind : C8.Cal P w K mg base k "behind" (spBehind K C) []) : FnOk P w K mg base CX0 (k + 1) f fd ["program", "place", "holds"] (spBeyond K C) := by
  refine F.ok sc_beyond (fun vs H Q E h => ?_) (fun cdv A outer s H vs Q E hr h => ?_)
  · obtain ⟨x, pa, tops, R, p, h, rfl, _⟩ := h
    rfl
  obtain ⟨x, pa, tops, R, ⟨ah, i, rs, fr⟩, h, rfl, hP, hA, hk, hp, q⟩ := h
  dsimp only at hA hk hp
  refine ⟨_, (pss_cons (ps_set (i := 3) sc_beyond.nd rfl (.inl rfl) (pM q_row qcl hr (by omega) (pv 0) (pa_cons (pv 1) pa_nil)))
    (pss_cons (ps_set (i := 4) sc_beyond.nd rfl (.inl rfl) (pe_ifExp (pt_val (pv 2)) pe_int pe_int))
    (pss_cons (ps_set (i := 5) sc_beyond.nd rfl (.inl rfl) (C8.pe_c c_rows_within hr (Nat.le_refl _) (by rfl) (pa_cons (pv 3) pa_nil)))
    (pss_cons (ps_if (PW.pt (pw_and (pt_cmpR op_lt (pv 4) (pe_callB (kLen (K := K) rfl) (by rfl) B.len PySem.boot_len (pa_cons (pv 5) pa_nil)) (nomark _)) (pw_and1 (pt_cmpR op_gt (pe_callB (kLen (K := K) rfl) (by rfl) B.len PySem.boot_len (pa_cons (pe_ix (kIxT (K := K) rfl) (pv 5) (pv 4) (fun _ _ => rfl)) pa_nil)) pe_int (nomark _)))))
      (pss_one (ps_ret (pe_op (kCatT (K := K) rfl) (pv 1) (pe_tup (pa_cons (pv 4) (pa_cons pe_int pa_nil))))))
      pss_nil)
    (pss_cons (ps_if (PW.pt (pw_and (pt_cmpR op_eq (pe_ix (kIxT (K := K) rfl) (pv 3) pe_int (fun _ _ => rfl)) pe_str (nomark _)) (pw_and1 (pt_val (pv 2)))))
      (pss_one (ps_ret (pv 1)))
      pss_nil)
    (pss_one (ps_ret (C8.pe_c c_behind hr (Nat.le_refl _) (by rfl) (pa_cons (pv 0) (pa_cons (pv 1) pa_nil)))))))))), ?_⟩
  obtain ⟨dx, tt, aa, hx⟩ := hP.obj
  have n : rs.isNil = false := by rcases hk with ⟨_, _, _, _, rfl⟩ | ⟨_, _, _, _, rfl⟩ <;> rfl
  have hw := hA.w hP.choose_spec.choose_spec.2.2.2.2.1
  refine ⟨_, rfl, x, dx, _, rfl, hx, lkRow, _, rfl, rowSp (E := C8.E0) hP hA n hp fun H1 v s1 hv => ?_⟩
  have hsh := At.short (tops := tops) (by obtain ⟨_, _, _, _, _, _, _, h, _⟩ := hP; exact h) hA
  -- a group with rows: the place within
  have into : ∀ {H3 : Hp} {g : Nat} {R2 : VK}, Same H H3 → (∀ (H' : Hp) (r : Addr), Same H H' → SqT K H' r (nats (ah ++ [i, g] ++ [0])) → R2 (.ref r) H') → ∀ T : Addr, H3 T = none → rCatA K (.ref pa) (.ref T) (upd H3 T (.tup [.int (g : Nat), .int 0])) R2 := fun {H3 g R2} s3 q2 T nT => by
    have sT := sameNew (o := .tup [.int (g : Nat), .int 0]) nT
    refine catUse (tupS (Same.trans s3 sT) hp) (.of upd_same) (by simp [nats]; omega) fun r5 H5 s5 h5 => q2 H5 r5 (Same.trans s3 (Same.trans sT s5)) ?_
    have e : nats (ah ++ [i, g] ++ [0]) = nats (ah ++ [i]) ++ [.int (g : Nat), .int 0] := by simp [nats]
    rw [e]
    exact h5
  have ok := rowOk_hd hw n
  have hP1 := hP.same s1
  rcases hk with ⟨w, a, b, t, rfl⟩ | ⟨w, ws, b, t, rfl⟩
  · have hvd := hv
    cases hvd with
    | @tup ra rx _ hR hRA =>
    cases hRA with
    | cons k0 kA =>
    cases k0
    cases h with
    | true =>
      refine ⟨_, rfl, _, rfl, iteT ⟨_, rfl, .ref ra, (Rs.ite w a b t).hd, tops.length, rfl, hv, ok, fun pw ws H3 npw s3 epw hws => ?_⟩⟩
      have s03 := Same.trans s1 s3
      have lws := hws.len
      rw [Rs.hd, in_if] at hws lws
      obtain ⟨vz, evz, hz⟩ := dinAtD hws (show [D.tup a.ds, .tup b.ds][0]? = some (.tup a.ds) from rfl)
      cases hz with
      | @tup rz xz _ hzT hzA =>
      refine ⟨_, rfl, _, rfl, _, _, rfl, .inr (.of epw), _, _, rfl, rfl, _, rfl, ?_⟩
      rw [decide_eq_true (show (0 : Int) < (ws.length : Nat) by simp at lws; omega)]
      refine iteT ?_
      refine ⟨_, rfl, _, rfl, _, _, _, _, rfl, rfl, .of epw, atI_nat (j := 0) evz, _, _, rfl, .inr hzT, _, _, rfl, rfl, _, rfl, ?_⟩
      rw [hzA.len]
      cases e : a.isNil with
      | false =>
        rw [decide_eq_true (show (0 : Int) < (a.ds.length : Nat) by rw [Rs.ds_hd e, List.length_cons]; omega)]
        refine iteT ⟨_, rfl, _, rfl, by show 2 ≤ sizeLine; decide, into (g := 0) s03 fun H' r5 s5 h5 => q H' _ s5 ?_⟩
        show PlO K H' (.ref r5) (norm (.ifF ah (i + 1) t fr) a (ah ++ [i, 0]) 0)
        rw [norm_here e]
        exact ⟨r5, rfl, h5⟩
      | true =>
        have eb : a = .nil := by
          cases a with
          | nil => rfl
          | _ => cases e
        subst eb
        refine iteF ?_
        refine ⟨_, rfl, _, _, _, _, rfl, rfl, tupS s3 hR, atI_nat (j := 0) rfl, rfl, _, rfl, ?_⟩
        rw [decide_eq_false (fun c => absurd (strEq.mp c) (by decide +kernel))]
        refine iteF (iteF ?_)
        exact ⟨_, rfl, _, rfl, x, pa, tops, R, ah, i, _, fr, rfl, hP.same s03, hA, n, tupS s03 hp, fun H' v s hv => q H' v (Same.trans s03 s) hv⟩
    | false =>
      refine ⟨_, rfl, _, rfl, iteF ⟨_, rfl, .ref ra, (Rs.ite w a b t).hd, tops.length, rfl, hv, ok, fun pw ws H3 npw s3 epw hws => ?_⟩⟩
      have s03 := Same.trans s1 s3
      have lws := hws.len
      rw [Rs.hd, in_if] at hws lws
      obtain ⟨vz, evz, hz⟩ := dinAtD hws (show [D.tup a.ds, .tup b.ds][1]? = some (.tup b.ds) from rfl)
      cases hz with
      | @tup rz xz _ hzT hzA =>
      refine ⟨_, rfl, _, rfl, _, _, rfl, .inr (.of epw), _, _, rfl, rfl, _, rfl, ?_⟩
      rw [decide_eq_true (show (1 : Int) < (ws.length : Nat) by simp at lws; omega)]
      refine iteT ?_
      refine ⟨_, rfl, _, rfl, _, _, _, _, rfl, rfl, .of epw, atI_nat (j := 1) evz, _, _, rfl, .inr hzT, _, _, rfl, rfl, _, rfl, ?_⟩
      rw [hzA.len]
      cases e : b.isNil with
      | false =>
        rw [decide_eq_true (show (0 : Int) < (b.ds.length : Nat) by rw [Rs.ds_hd e, List.length_cons]; omega)]
        refine iteT ⟨_, rfl, _, rfl, by show 2 ≤ sizeLine; decide, into (g := 1) s03 fun H' r5 s5 h5 => q H' _ s5 ?_⟩
        show PlO K H' (.ref r5) (norm (.ifF ah (i + 1) t fr) b (ah ++ [i, 1]) 0)
        rw [norm_here e]
        exact ⟨r5, rfl, h5⟩
      | true =>
        have eb : b = .nil := by
          cases b with
          | nil => rfl
          | _ => cases e
        subst eb
        refine iteF ?_
        refine ⟨_, rfl, _, _, _, _, rfl, rfl, tupS s3 hR, atI_nat (j := 0) rfl, rfl, _, rfl, ?_⟩
        rw [decide_eq_false (fun c => absurd (strEq.mp c) (by decide +kernel))]
        refine iteF (iteF ?_)
        exact ⟨_, rfl, _, rfl, x, pa, tops, R, ah, i, _, fr, rfl, hP.same s03, hA, n, tupS s03 hp, fun H' v s hv => q H' v (Same.trans s03 s) hv⟩
  · have hvd := hv
    cases hvd with
    | @tup ra rx _ hR hRA =>
    cases hRA with
    | cons k0 kA =>
    cases k0
    cases h with
    | true =>
      refine ⟨_, rfl, _, rfl, iteT ⟨_, rfl, .ref ra, (Rs.loop w ws b t).hd, tops.length, rfl, hv, ok, fun pw gs H3 npw s3 epw hgs => ?_⟩⟩
      have s03 := Same.trans s1 s3
      have lgs := hgs.len
      rw [Rs.hd, in_loop] at hgs lgs
      obtain ⟨vz, evz, hz⟩ := dinAtD hgs (show [D.tup b.ds][0]? = some (.tup b.ds) from rfl)
      cases hz with
      | @tup rz xz _ hzT hzA =>
      refine ⟨_, rfl, _, rfl, _, _, rfl, .inr (.of epw), _, _, rfl, rfl, _, rfl, ?_⟩
      rw [decide_eq_true (show (0 : Int) < (gs.length : Nat) by simp at lgs; omega)]
      refine iteT ?_
      refine ⟨_, rfl, _, rfl, _, _, _, _, rfl, rfl, .of epw, atI_nat (j := 0) evz, _, _, rfl, .inr hzT, _, _, rfl, rfl, _, rfl, ?_⟩
      rw [hzA.len]
      cases e : b.isNil with
      | false =>
        rw [decide_eq_true (show (0 : Int) < (b.ds.length : Nat) by rw [Rs.ds_hd e, List.length_cons]; omega)]
        refine iteT ⟨_, rfl, _, rfl, by show 2 ≤ sizeLine; decide, into (g := 0) s03 fun H' r5 s5 h5 => q H' _ s5 ?_⟩
        show PlO K H' (.ref r5) (norm (.loopF ah i w ws b t fr) b (ah ++ [i, 0]) 0)
        rw [norm_here e]
        exact ⟨r5, rfl, h5⟩
      | true =>
        have eb : b = .nil := by
          cases b with
          | nil => rfl
          | _ => cases e
        subst eb
        refine iteF ?_
        refine ⟨_, rfl, _, _, _, _, rfl, rfl, tupS s3 hR, atI_nat (j := 0) rfl, rfl, _, rfl, ?_⟩
        rw [decide_eq_true (strEq.mpr rfl)]
        refine iteT ⟨_, rfl, _, rfl, iteT ?_⟩
        exact ⟨_, rfl, q _ _ s03 ⟨pa, rfl, tupS s03 hp⟩⟩
    | false =>
      refine ⟨_, rfl, _, rfl, iteF ⟨_, rfl, .ref ra, (Rs.loop w ws b t).hd, tops.length, rfl, hv, ok, fun pw gs H3 npw s3 epw hgs => ?_⟩⟩
      have s03 := Same.trans s1 s3
      have lgs := hgs.len
      rw [Rs.hd, in_loop] at hgs lgs
      refine ⟨_, rfl, _, rfl, _, _, rfl, .inr (.of epw), _, _, rfl, rfl, _, rfl, ?_⟩
      rw [decide_eq_false (show ¬ (1 : Int) < (gs.length : Nat) by simp at lgs; omega)]
      refine iteF (iteF ?_)
      refine ⟨_, rfl, _, _, _, _, rfl, rfl, tupS s3 hR, atI_nat (j := 0) rfl, rfl, _, rfl, ?_⟩
      rw [decide_eq_true (strEq.mpr rfl)]
      refine iteT ⟨_, rfl, _, rfl, iteF ?_⟩
      exact ⟨_, rfl, _, rfl, x, pa, tops, R, ah, i, _, fr, rfl, hP.same s03, hA, n, tupS s03 hp, fun H' v s hv => q H' v (Same.trans s03 s) hv⟩

end

end LW

namespace LW
open PySem PySem.Spec PyProof.Rows L2
local macro_rules | `(tactic| walk_at "go1") => `(tactic| first
  | refine ⟨_, rfl, ?_⟩
  | refine ⟨_, _, rfl, rfl, ?_⟩
  | refine ⟨show (0 : Int) < _ from by omega, ?_⟩
  | refine ⟨show CMul _ _ from by first | exact .inl ⟨by omega, by omega⟩ | exact .inr ⟨by omega, by omega⟩, ?_⟩
  | refine ⟨show CDiv _ _ from ⟨by omega, by omega⟩, ?_⟩)
local macro_rules | `(tactic| walk_at "go") => `(tactic| repeat walk_at "go1")

section
variable {P : Program} {w : World} {K : PySem.W.Frag} {mg : Str → Option Value} {base : Heap}

abbrev s_value : Stmt := topS 22
theorem sc_value : FnScope ["one", "filling", "numbers", "last", "number", "held"] ["one", "filling"] (defScope s_value) := ⟨rfl, rfl, rfl, by decide +kernel, rfl, by decide +kernel, by decide +kernel⟩

def spValue (K : PySem.W.Frag) : Sp := fun vs H Q _ => ∃ (v : V) (f : Addr) (s : Sm) (xs : List Int), vs = [v, .ref f] ∧ SumIn K H v s ∧ SqL K H f (xs.map V.int) ∧ s.1.length = xs.length ∧ xs.length ≤ 1000 ∧
  (∀ n ∈ s.1, Wd 400000 n) ∧ (∀ x ∈ xs, Wd 400000 x) ∧ ∀ H', Same H H' → Q (.int (val s xs)) H'
def spValueA (K : PySem.W.Frag) : Sp := fun vs H Q _ => ∃ (v : V) (f : Addr) (s : Sm) (xs : List Int), vs = [v, .ref f] ∧ SumIn K H v s ∧ (SqL K H f (xs.map V.int) ∨ SqT K H f (xs.map V.int)) ∧ s.1.length = xs.length ∧ xs.length ≤ 1000 ∧
  (∀ n ∈ s.1, Wd 400000 n) ∧ (∀ x ∈ xs, Wd 400000 x) ∧ ∀ H', Same H H' → Q (.int (val s xs)) H'
theorem ok_value {f : Addr} {fd : FuncData} {k : Nat} (F : Fun K "value" "value" s_value f fd) (B : Bl mg) : FnOk P w K mg base CX0 (k + 1) f fd ["one", "filling"] (spValueA K) := by
  refine F.ok sc_value (fun vs H Q E h => ?_) (fun cdv A outer s H vs Q E hr h => ?_)
  · obtain ⟨v, f, s, xs, rfl, _⟩ := h
    rfl
  obtain ⟨v, f, ⟨ns, m⟩, xs, rfl, ⟨a, t, rfl, h1, h2⟩, hF, hl, hz, w1, w2, q⟩ := h
  dsimp only at h1 h2 hl w1 w2 q
  rcases hF with hF | hF
  · refine ⟨_, (pss_cons (ps_asg (pv 0) (kT2 (K := K) rfl rfl (pg_name (i := 2) sc_value.nd rfl (.inl rfl)) (pg_name (i := 3) sc_value.nd rfl (.inl rfl))))
    (pss_one (ps_ret (pe_op op_add (pv 3) (pe_callB (kSum (K := K) rfl rfl) (by rfl) B.sum (by decide +kernel) (pa_cons (pe_lc (own := [("number", 4), ("held", 5)]) rfl sc_value.nd (kZ (K := K) rfl true false (by rfl) B.zip (pa_cons (pv 2) (pa_cons (pv 1) pa_nil))) (blkOk_by (own := [("number", 4), ("held", 5)]) (N := ["one", "filling", "numbers", "last", "number", "held"]) (sc := defScope s_value) (by decide +kernel)) (fun _ _ _ _ _ => (pgT2 (K := K) rfl (pgN (i := 4) sc_value.nd rfl (.inl rfl) (.inr rfl)) (pgN (i := 5) sc_value.nd rfl (.inl rfl) (.inr rfl)) rfl (by rfl) (by rfl) (by rfl) (by rfl))) (fun _ _ _ _ _ => pts_nil) (fun _ _ _ _ _ => (pe_op op_mulW (pv 4) (pv 5)))) pa_nil)))))), ?_⟩
    refine ⟨_, rfl, _, _, rfl, h1, rfl, _, _, rfl, _, _, rfl, rfl, ?_⟩
    refine ⟨_, rfl, _, rfl, _, rfl, _, _, _, _, rfl, h2, hF, fun D nD => ?_⟩
    refine lc_it (walkZ (n := ns.length) (by simp [hl])) (Made H D (RI fun i => (ns[i]?.getD 0) * (xs[i]?.getD 0))) (made0 nD) (fun i H1 _ p => ⟨tupS p.same h2, Same.seq p.same hF⟩) (fun i x H1 H2 hi p y => ?_) (fun H1 p => ?_)
    · obtain ⟨T, x1, x2, rfl, nT, rfl, e1, e2⟩ := y
      have i1 : i < xs.length := by omega
      have f1 := mapAt e1 hi
      have f2 := mapAt e2 i1
      subst f1 f2
      refine ⟨_, _, rfl, .inl (.inl upd_same), rfl, _, _, rfl, _, _, rfl, rfl, rfl, ?_⟩
      refine lcYes ?_
      refine ⟨_, rfl, _, rfl, _, _, rfl, rfl, Wd.mulOk (w1 _ (List.getElem_mem _)) (w2 _ (List.getElem_mem _)) (by decide) (by decide) (by decide), ?_⟩
      exact p.push nD (stRI _) (by omega) (sameNew nT) (by simp [RI, hi, i1])
    · obtain ⟨g, sm⟩ := madeRI p
      refine ⟨_, _, rfl, .of g, _, _, rfl, rfl, ?_⟩
      rw [← dot_sum ns xs hl]
      exact q _ sm
  · refine ⟨_, (pss_cons (ps_asg (pv 0) (kT2 (K := K) rfl rfl (pg_name (i := 2) sc_value.nd rfl (.inl rfl)) (pg_name (i := 3) sc_value.nd rfl (.inl rfl))))
    (pss_one (ps_ret (pe_op op_add (pv 3) (pe_callB (kSum (K := K) rfl rfl) (by rfl) B.sum (by decide +kernel) (pa_cons (pe_lc (own := [("number", 4), ("held", 5)]) rfl sc_value.nd (kZ (K := K) rfl true true (by rfl) B.zip (pa_cons (pv 2) (pa_cons (pv 1) pa_nil))) (blkOk_by (own := [("number", 4), ("held", 5)]) (N := ["one", "filling", "numbers", "last", "number", "held"]) (sc := defScope s_value) (by decide +kernel)) (fun _ _ _ _ _ => (pgT2 (K := K) rfl (pgN (i := 4) sc_value.nd rfl (.inl rfl) (.inr rfl)) (pgN (i := 5) sc_value.nd rfl (.inl rfl) (.inr rfl)) rfl (by rfl) (by rfl) (by rfl) (by rfl))) (fun _ _ _ _ _ => pts_nil) (fun _ _ _ _ _ => (pe_op op_mulW (pv 4) (pv 5)))) pa_nil)))))), ?_⟩
    refine ⟨_, rfl, _, _, rfl, h1, rfl, _, _, rfl, _, _, rfl, rfl, ?_⟩
    refine ⟨_, rfl, _, rfl, _, rfl, _, _, _, _, rfl, h2, hF, fun D nD => ?_⟩
    refine lc_it (walkZ (n := ns.length) (by simp [hl])) (Made H D (RI fun i => (ns[i]?.getD 0) * (xs[i]?.getD 0))) (made0 nD) (fun i H1 _ p => ⟨tupS p.same h2, tupS p.same hF⟩) (fun i x H1 H2 hi p y => ?_) (fun H1 p => ?_)
    · obtain ⟨T, x1, x2, rfl, nT, rfl, e1, e2⟩ := y
      have i1 : i < xs.length := by omega
      have f1 := mapAt e1 hi
      have f2 := mapAt e2 i1
      subst f1 f2
      refine ⟨_, _, rfl, .inl (.inl upd_same), rfl, _, _, rfl, _, _, rfl, rfl, rfl, ?_⟩
      refine lcYes ?_
      refine ⟨_, rfl, _, rfl, _, _, rfl, rfl, Wd.mulOk (w1 _ (List.getElem_mem _)) (w2 _ (List.getElem_mem _)) (by decide) (by decide) (by decide), ?_⟩
      exact p.push nD (stRI _) (by omega) (sameNew nT) (by simp [RI, hi, i1])
    · obtain ⟨g, sm⟩ := madeRI p
      refine ⟨_, _, rfl, .of g, _, _, rfl, rfl, ?_⟩
      rw [← dot_sum ns xs hl]
      exact q _ sm

abbrev s_opposite : Stmt := topS 23
theorem sc_opposite : FnScope ["one", "numbers", "last", "number"] ["one"] (defScope s_opposite) := ⟨rfl, rfl, rfl, by decide +kernel, rfl, by decide +kernel, by decide +kernel⟩

def spOpp (K : PySem.W.Frag) : Sp := fun vs H Q _ => ∃ (v : V) (s : Sm), vs = [v] ∧ SumIn K H v s ∧ s.1.length ≤ 1000 ∧ ∀ H' v', Same H H' → SumIn K H' v' (s.1.map (fun n => -n), 1 - s.2) → Q v' H'
theorem ok_opposite {f : Addr} {fd : FuncData} {k : Nat} (F : Fun K "opposite" "opposite" s_opposite f fd) (B : Bl mg) : FnOk P w K mg base CX0 (k + 1) f fd ["one"] (spOpp K) := by
  refine F.ok sc_opposite (fun vs H Q E h => ?_) (fun cdv A outer s H vs Q E hr h => ?_)
  · obtain ⟨v, s, rfl, _⟩ := h
    rfl
  obtain ⟨v, ⟨ns, m⟩, rfl, ⟨a, t, rfl, h1, h2⟩, hz, q⟩ := h
  dsimp only at h1 h2 hz q
  refine ⟨_, (pss_cons (ps_asg (pv 0) (kT2 (K := K) rfl rfl (pg_name (i := 1) sc_opposite.nd rfl (.inl rfl)) (pg_name (i := 2) sc_opposite.nd rfl (.inl rfl))))
    (pss_one (ps_ret (pe_tup (pa_cons (pe_callTy (kTup (K := K) rfl) (by rfl) B.tuple (by decide +kernel) (pa_cons (pe_lc (own := [("number", 3)]) rfl sc_opposite.nd (kTup_ (K := K) rfl (pv 1)) (blkOk_by (own := [("number", 3)]) (N := ["one", "numbers", "last", "number"]) (sc := defScope s_opposite) (by decide +kernel)) (fun _ _ _ _ _ => (pgN (i := 3) sc_opposite.nd rfl (.inl rfl) (.inr rfl))) (fun _ _ _ _ _ => pts_nil) (fun _ _ _ _ _ => (pe_un un_neg (pv 3)))) pa_nil)) (pa_cons (pe_op op_sub pe_int (pv 2)) pa_nil)))))), ?_⟩
  refine ⟨_, rfl, _, _, rfl, h1, rfl, _, _, rfl, _, _, rfl, rfl, ?_⟩
  refine ⟨_, rfl, _, rfl, ⟨_, h2⟩, fun D nD => ?_⟩
  refine lc_it walk_tup (Made H D (RI fun i => -(ns[i]?.getD 0))) (made0 nD) (fun i H1 _ p => tupS p.same h2) (fun i x H1 H2 hi p y => ?_) (fun H1 p => ?_)
  · obtain ⟨rfl, e1⟩ := y
    have hi' : i < ns.length := by simpa using hi
    have f1 := mapAt e1 hi'
    subst f1
    refine ⟨rfl, ?_⟩
    refine lcYes ?_
    refine ⟨_, rfl, _, rfl, ?_⟩
    exact p.push nD (stRI _) (by omega) (Same.refl _) (by simp [RI, hi'])
  · obtain ⟨g, sm⟩ := madeRI p
    refine ⟨_, _, rfl, .inl ⟨.of g, fun T nT => ⟨_, rfl, _, _, rfl, rfl, by show 2 ≤ sizeLine; decide, fun U nU => ?_⟩⟩⟩
    refine q _ _ (Same.trans sm (Same.trans (sameNew nT) (sameNew nU))) ⟨U, T, rfl, .of upd_same, ?_⟩
    refine tupS (sameNew nU) (.of ?_)
    rw [upd_same, List.length_map]
    congr 3
    apply List.ext_getElem?
    intro j
    by_cases hj : j < ns.length
    · simp [hj]
    · simp [hj]

end

end LW

namespace LW
open PySem PySem.Spec PyProof.Rows L2
/-! ### put_in, in plain lists -/
def stepP (acc : Sm) (p : Int × Sm) : Sm := (List.zipWith (fun b y => b + p.1 * y) acc.1 p.2.1, acc.2 + p.1 * p.2.2)
def widthOf (bs : List Sm) : Nat := (bs.headD ([], 0)).1.length
def putIn (s : Sm) (bs : List Sm) : Sm := (s.1.zip bs).foldl stepP (List.replicate (widthOf bs) 0, s.2)
theorem stepP_len {acc : Sm} {p : Int × Sm} {k : Nat} (h : acc.1.length = k) (h' : p.2.1.length = k) : (stepP acc p).1.length = k := by
  simp [stepP, h, h']
theorem dot_step : ∀ (a b xs : List Int) (n : Int), a.length = b.length → dot (List.zipWith (fun p q => p + n * q) a b) xs = dot a xs + n * dot b xs
  | [], [], xs, n, _ => by simp [dot]
  | a :: r, b :: t, [], n, _ => by simp [dot]
  | a :: r, b :: t, x :: xs, n, h => by
    have ih := dot_step r t xs n (by simpa using h)
    simp only [List.zipWith_cons_cons, dot, ih, Int.add_mul, Int.mul_add, Int.mul_assoc]
    omega
  | [], _ :: _, _, _, h => by simp at h
  | _ :: _, [], _, _, h => by simp at h
theorem dot_zero : ∀ (k : Nat) (xs : List Int), dot (List.replicate k 0) xs = 0
  | 0, _ => by simp [dot]
  | k + 1, [] => by simp [List.replicate_succ, dot]
  | k + 1, x :: xs => by simp [List.replicate_succ, dot, dot_zero k xs]
theorem fold_val {k : Nat} (xs : List Int) : ∀ (ps : List (Int × Sm)) (acc : Sm), acc.1.length = k → (∀ p ∈ ps, p.2.1.length = k) →
    val (ps.foldl stepP acc) xs = val acc xs + dot (ps.map (·.1)) (ps.map fun p => val p.2 xs)
  | [], acc, _, _ => by simp [dot]
  | p :: r, acc, h, hp => by
    have hl := hp p (List.mem_cons_self ..)
    rw [List.foldl_cons, fold_val xs r (stepP acc p) (stepP_len h hl) fun q hq => hp q (List.mem_cons_of_mem _ hq)]
    simp only [List.map_cons, dot, val, stepP]
    rw [dot_step _ _ _ _ (h.trans hl.symm), Int.mul_add]
    omega
theorem put_val {s : Sm} {bs : List Sm} {xs : List Int} (hl : s.1.length = bs.length) (hw : ∀ b ∈ bs, b.1.length = widthOf bs) : val (putIn s bs) xs = val s (bs.map fun b => val b xs) := by
  unfold putIn
  rw [fold_val (k := widthOf bs) xs _ _ (by simp) fun p hp => hw _ (List.of_mem_zip hp).2]
  have e1 : (s.1.zip bs).map (·.1) = s.1 := by rw [List.map_fst_zip]; omega
  have e2 : (s.1.zip bs).map (fun p => val p.2 xs) = bs.map fun b => val b xs := by
    have q : (s.1.zip bs).map (fun p => val p.2 xs) = ((s.1.zip bs).map (·.2)).map fun b => val b xs := by rw [List.map_map]; rfl
    rw [q, List.map_snd_zip]
    omega
  rw [e1, e2]
  simp only [val, dot_zero]
  omega
theorem put_len {s : Sm} {bs : List Sm} (hw : ∀ b ∈ bs, b.1.length = widthOf bs) : (putIn s bs).1.length = widthOf bs := by
  have key : ∀ (ps : List (Int × Sm)) (acc : Sm) (k : Nat), acc.1.length = k → (∀ p ∈ ps, p.2.1.length = k) → (ps.foldl stepP acc).1.length = k := by
    intro ps
    induction ps with
    | nil => exact fun acc k h _ => h
    | cons p r ih => exact fun acc k h hp => ih _ k (stepP_len h (hp p (List.mem_cons_self ..))) fun q hq => hp q (List.mem_cons_of_mem _ hq)
  exact key _ _ _ (by simp) fun p hp => hw _ (List.of_mem_zip hp).2
/-- the numbers, one by one -/
theorem put_at {s : Sm} {bs : List Sm} (hw : ∀ b ∈ bs, b.1.length = widthOf bs) {j : Nat} (hj : j < widthOf bs) :
    (putIn s bs).1[j]? = some (((s.1.zip bs).map fun p => p.1 * (p.2.1[j]?.getD 0)).sum) := by
  have key : ∀ (ps : List (Int × Sm)) (acc : Sm) (x : Int), acc.1[j]? = some x → (∀ p ∈ ps, j < p.2.1.length) → (ps.foldl stepP acc).1[j]? = some (x + (ps.map fun p => p.1 * (p.2.1[j]?.getD 0)).sum) := by
    intro ps
    induction ps with
    | nil =>
      intro acc x h _
      simp [h]
    | cons p r ih =>
      intro acc x h hp
      have hl := hp p (List.mem_cons_self ..)
      have e : (stepP acc p).1[j]? = some (x + p.1 * (p.2.1[j]?.getD 0)) := by
        simp only [stepP, List.getElem?_zipWith, h, List.getElem?_eq_getElem hl, Option.getD_some]
      rw [List.foldl_cons, ih _ _ e fun q hq => hp q (List.mem_cons_of_mem _ hq), List.map_cons, List.sum_cons, Int.add_assoc]
  have q := key (s.1.zip bs) (List.replicate (widthOf bs) 0, s.2) 0 (by simp [hj]) fun p hp => by
    rw [hw _ (List.of_mem_zip hp).2]
    exact hj
  rw [putIn, q, Int.zero_add]
theorem put_last (s : Sm) (bs : List Sm) : (putIn s bs).2 = s.2 + ((s.1.zip bs).map fun p => p.1 * p.2.2).sum := by
  have key : ∀ (ps : List (Int × Sm)) (acc : Sm), (ps.foldl stepP acc).2 = acc.2 + (ps.map fun p => p.1 * p.2.2).sum := by
    intro ps
    induction ps with
    | nil => exact fun acc => by simp
    | cons p r ih =>
      intro acc
      rw [List.foldl_cons, ih, List.map_cons, List.sum_cons]
      simp only [stepP]
      omega
  exact key _ _

end LW

namespace LW
open PySem PySem.Spec PyProof.Rows L2
local macro_rules | `(tactic| walk_at "go1") => `(tactic| first
  | refine ⟨_, rfl, ?_⟩
  | refine ⟨_, _, rfl, rfl, ?_⟩
  | refine ⟨show (0 : Int) < _ from by omega, ?_⟩
  | refine ⟨show CMul _ _ from by first | exact .inl ⟨by omega, by omega⟩ | exact .inr ⟨by omega, by omega⟩, ?_⟩
  | refine ⟨show CDiv _ _ from ⟨by omega, by omega⟩, ?_⟩)
local macro_rules | `(tactic| walk_at "go") => `(tactic| repeat walk_at "go1")

section
variable {P : Program} {w : World} {K : PySem.W.Frag} {mg : Str → Option Value} {base : Heap}

/-- the numbers of the sums, as the columns give them -/
def colS (bs : List Sm) (j : Nat) : List Int := bs.map fun b => b.1[j]?.getD 0
theorem putCols {s : Sm} {bs : List Sm} (hw : ∀ b ∈ bs, b.1.length = widthOf bs) : putIn s bs = ((List.range (widthOf bs)).map fun j => val (s.1, 0) (colS bs j), val s (bs.map (·.2))) := by
  have key : ∀ (a : List Int) (bs : List Sm) (f : Sm → Int), ((a.zip bs).map fun p => p.1 * f p.2).sum = dot a (bs.map f) := by
    intro a
    induction a with
    | nil => intro bs f; simp [dot]
    | cons x r ih =>
      intro bs f
      cases bs with
      | nil => simp [dot]
      | cons b t => simp [dot, ih]
  refine Prod.ext ?_ ?_
  · apply List.ext_getElem?
    intro j
    by_cases hj : j < widthOf bs
    · rw [put_at hw hj, key s.1 bs fun b => b.1[j]?.getD 0]
      simp [hj, val, colS]
    · rw [List.getElem?_eq_none (by rw [put_len hw]; omega), List.getElem?_eq_none (by simp; omega)]
  · rw [put_last, key s.1 bs fun b => b.2]
    rfl
/-- the inner tuples of the sums -/
def RIn (K : PySem.W.Frag) (bs : List Sm) : Nat → V → Hp → Prop := fun j y H => ∃ (b : Sm) (tb : Addr), bs[j]? = some b ∧ y = .ref tb ∧ SqT K H tb (b.1.map V.int)
theorem stIn (bs : List Sm) : Stable (RIn K bs) := fun _ _ _ _ e ⟨b, tb, h1, h2, h3⟩ => ⟨b, tb, h1, h2, tsTup e h3⟩
theorem refsOf {H : Hp} : ∀ (bs : List Sm) (ys : List V), ys.length = bs.length → (∀ j y, ys[j]? = some y → RIn K bs j y H) → ∃ as : List Addr, ys = as.map V.ref ∧ TupsIn K H as (bs.map fun b => b.1.map V.int)
  | [], [], _, _ => ⟨[], rfl, .nil⟩
  | b :: r, y :: t, hl, h => by
    obtain ⟨as, e, q⟩ := refsOf r t (by simpa using hl) fun j z hz => by
      obtain ⟨b', tb, h1, h2, h3⟩ := h (j + 1) z (by simpa using hz)
      exact ⟨b', tb, by simpa using h1, h2, h3⟩
    obtain ⟨b', tb, h1, h2, h3⟩ := h 0 y rfl
    have : b = b' := by simpa using h1
    subst this
    exact ⟨tb :: as, by rw [h2, e]; rfl, .cons h3 q⟩
  | [], _ :: _, hl, _ => by simp at hl
  | _ :: _, [], hl, _ => by simp at hl
theorem tupsSame {H H' : Hp} (e : Same H H') {as : List Addr} {xss : List (List V)} (h : TupsIn K H as xss) : TupsIn K H' as xss := Paired.mapP h fun _ _ r => tupS e r
abbrev s_put_in : Stmt := topS 24
theorem sc_put_in : FnScope ["one", "boxes", "numbers", "_", "inners", "told", "inner", "column", "more"] ["one", "boxes"] (defScope s_put_in) := ⟨rfl, rfl, rfl, by decide +kernel, rfl, by decide +kernel, by decide +kernel⟩

def spPut (K : PySem.W.Frag) : Sp := fun vs H Q _ => ∃ (v : V) (bl : Addr) (s : Sm) (bvs : List V) (bs : List Sm), vs = [v, .ref bl] ∧ SumIn K H v s ∧ SqL K H bl bvs ∧ SumsIn K H bvs bs ∧ s.1.length = bs.length ∧ 0 < bs.length ∧ bs.length ≤ 3 ∧ widthOf bs ≤ 1000 ∧
  (∀ b ∈ bs, b.1.length = widthOf bs) ∧ (∀ n ∈ s.1, Wd 100000 n) ∧ (∀ b ∈ bs, Wd 100000 b.2 ∧ ∀ n ∈ b.1, Wd 100000 n) ∧ ∀ H' v', Same H H' → SumIn K H' v' (putIn s bs) → Q v' H'
theorem ok_put_in {f : Addr} {fd : FuncData} {k : Nat} (F : Fun K "put_in" "put_in" s_put_in f fd) (B : Bl mg) (c_value : C8.Cal P w K mg base k "value" (spValueA K) []) : FnOk P w K mg base CX0 (k + 1) f fd ["one", "boxes"] (spPut K) := by
  refine F.ok sc_put_in (fun vs H Q E h => ?_) (fun cdv A outer s H vs Q E hr h => ?_)
  · obtain ⟨v, bl, s, bvs, bs, rfl, _⟩ := h
    rfl
  obtain ⟨v, bl, ⟨ns, m⟩, bvs, bs, rfl, hv, hB, hS, hl, hp0, hp1, hw1, hw, w1, w2, q⟩ := h
  obtain ⟨a, t, rfl, h1, h2⟩ := id hv
  dsimp only at h1 h2 hl w1 q
  refine ⟨_, (pss_cons (ps_asg (pv 0) (kT2 (K := K) rfl rfl (pg_name (i := 2) sc_put_in.nd rfl (.inr rfl)) (pg_name (i := 3) sc_put_in.nd rfl (.inl rfl))))
    (pss_cons (ps_setLc (i := 4) (own := [("inner", 6), ("_", 3)]) rfl sc_put_in.nd rfl rfl (sw_true rfl rfl rfl (by decide +kernel)) (kList_ (K := K) rfl (pv 1)) (blkOk_by (own := [("inner", 6), ("_", 3)]) (N := ["one", "boxes", "numbers", "_", "inners", "told", "inner", "column", "more"]) (sc := defScope s_put_in) (by decide +kernel)) (fun _ _ _ _ _ => (pgT2 (K := K) rfl (pgN (i := 6) sc_put_in.nd rfl (.inl rfl) (.inr rfl)) (pgN (i := 3) sc_put_in.nd rfl (.inl rfl) (.inr rfl)) rfl (by rfl) (by rfl) (by rfl) (by rfl))) (fun _ _ _ _ _ => pts_nil) (fun _ _ _ _ _ => (pv 6)))
    (pss_cons (ps_setLc (i := 5) (own := [("column", 7)]) rfl sc_put_in.nd rfl rfl (sw_true rfl rfl rfl (by decide +kernel)) (kZS (K := K) rfl (by rfl) B.zip (pv 4)) (blkOk_by (own := [("column", 7)]) (N := ["one", "boxes", "numbers", "_", "inners", "told", "inner", "column", "more"]) (sc := defScope s_put_in) (by decide +kernel)) (fun _ _ _ _ _ => (pgN (i := 7) sc_put_in.nd rfl (.inl rfl) (.inr rfl))) (fun _ _ _ _ _ => pts_nil) (fun _ _ _ _ _ => (C8.pe_c c_value hr (Nat.le_refl _) (by rfl) (pa_cons (pe_tup (pa_cons (pv 2) (pa_cons pe_int pa_nil))) (pa_cons (pv 7) pa_nil)))))
    (pss_one (ps_ret (pe_tup (pa_cons (pe_callTy (kTup (K := K) rfl) (by rfl) B.tuple (by decide +kernel) (pa_cons (pv 5) pa_nil)) (pa_cons (C8.pe_c c_value hr (Nat.le_refl _) (by rfl) (pa_cons (pv 0) (pa_cons (pe_lc (own := [("_", 3), ("more", 8)]) rfl sc_put_in.nd (kList_ (K := K) rfl (pv 1)) (blkOk_by (own := [("_", 3), ("more", 8)]) (N := ["one", "boxes", "numbers", "_", "inners", "told", "inner", "column", "more"]) (sc := defScope s_put_in) (by decide +kernel)) (fun _ _ _ _ _ => (pgT2 (K := K) rfl (pgN (i := 3) sc_put_in.nd rfl (.inl rfl) (.inr rfl)) (pgN (i := 8) sc_put_in.nd rfl (.inl rfl) (.inr rfl)) rfl (by rfl) (by rfl) (by rfl) (by rfl))) (fun _ _ _ _ _ => pts_nil) (fun _ _ _ _ _ => (pv 8))) pa_nil))) pa_nil)))))))), ?_⟩
  have lb := hS.len
  have up4 : ∀ {n : Nat} {x : Int}, Wd 100000 x → Wd 400000 x := fun h => Wd.mono h (by decide)
  refine ⟨_, rfl, _, _, rfl, h1, rfl, _, _, rfl, _, _, rfl, rfl, ?_⟩
  -- inners
  refine ⟨_, rfl, bl, rfl, ⟨_, hB⟩, fun L nL => ?_⟩
  refine lc_it (walk_list (xs := bvs)) (Made H L (RIn K bs)) (made0 nL) (fun j H1 _ p => Same.seq p.same hB) (fun j x H1 H2 hj p y => ?_) (fun H1 p => ?_)
  · obtain ⟨rfl, ex⟩ := y
    obtain ⟨⟨bn, bm⟩, fb, ab, tb, rfl, g1, g2⟩ := sumsAt hS ex
    dsimp only at g1 g2
    refine ⟨_, _, rfl, tupS p.same g1, rfl, _, _, rfl, _, _, rfl, rfl, rfl, ?_⟩
    refine lcYes ?_
    refine ⟨_, rfl, ?_⟩
    exact p.push nL (stIn bs) (by omega) (Same.refl _) ⟨_, tb, fb, rfl, tupS p.same g2⟩
  obtain ⟨ys, lys, eL, s1, hys⟩ := p
  obtain ⟨as, rfl, hT⟩ := refsOf bs ys (by omega) hys
  have las : as.length = bs.length := by
    have := Paired.length hT
    simpa using this
  -- told
  refine ⟨_, rfl, L, as, _, rfl, .inr (.of eL), hT, by omega, by omega, fun D nD => ?_⟩
  refine lc_it (walkS (n := widthOf bs) (fun xs hx => ?_)) (Made H1 D (RI fun j => val (ns, 0) (colS bs j))) (made0 nD) (fun j H2 _ p => tupsSame p.same hT) (fun j x H2 H3 hj p y => ?_) (fun H2 p => ?_)
  · obtain ⟨b, hb, rfl⟩ := List.mem_map.mp hx
    rw [List.length_map]
    exact hw b hb
  · obtain ⟨T, rfl, nT, rfl⟩ := y
    have ecol : colV (bs.map fun b => b.1.map V.int) j = (colS bs j).map V.int := by
      simp only [colV, colS, List.map_map]
      apply List.map_congr_left
      intro b hb
      have : j < b.1.length := by rw [hw b hb]; exact hj
      simp [List.getD, this]
    rw [ecol]
    refine ⟨rfl, ?_⟩
    refine lcYes ?_
    refine ⟨_, rfl, by show 2 ≤ sizeLine; decide, fun U nU => ?_⟩
    have sU := Same.trans (sameNew (o := .tup ((colS bs j).map V.int)) nT) (sameNew (o := .tup [.ref t, .int 0]) nU)
    refine ⟨_, rfl, _, T, (ns, 0), colS bs j, rfl, ⟨U, t, rfl, .of upd_same, tupS (Same.trans s1 (Same.trans p.same sU)) h2⟩, .inr (tupS (sameNew nU) (.of upd_same)), by simp [colS, hl], by simp [colS]; omega, fun n hn => up4 (n := 0) (w1 n hn), fun x hx => ?_, fun H4 s4 => ?_⟩
    · obtain ⟨b, hb, rfl⟩ := List.mem_map.mp hx
      have : j < b.1.length := by rw [hw b hb]; exact hj
      rw [List.getElem?_eq_getElem this]
      exact up4 (n := 0) ((w2 b hb).2 _ (List.getElem_mem _))
    · exact p.push nD (stRI _) (by omega) (Same.trans sU s4) rfl
  obtain ⟨eD, s2⟩ := madeRI p
  have s12 := Same.trans s1 s2
  refine ⟨_, rfl, _, _, rfl, .inl ⟨.of eD, fun T nT => ?_⟩⟩
  have s3 := Same.trans s12 (sameNew (o := .tup (((List.range (widthOf bs)).map fun j => val (ns, 0) (colS bs j)).map V.int)) nT)
  refine ⟨_, rfl, _, rfl, bl, rfl, ⟨_, Same.seq s3 hB⟩, fun D2 nD2 => ?_⟩
  refine lc_it (walk_list (xs := bvs)) (Made _ D2 (RI fun j => ((bs.map (·.2))[j]?.getD 0))) (made0 nD2) (fun j H4 _ p => Same.seq p.same (Same.seq s3 hB)) (fun j x H4 H5 hj p y => ?_) (fun H4 p => ?_)
  · obtain ⟨rfl, ex⟩ := y
    obtain ⟨⟨bn, bm⟩, fb, ab, tb, rfl, g1, g2⟩ := sumsAt hS ex
    dsimp only at g1 g2
    refine ⟨_, _, rfl, tupS p.same (tupS s3 g1), rfl, _, _, rfl, _, _, rfl, rfl, rfl, ?_⟩
    refine lcYes ?_
    refine ⟨_, rfl, ?_⟩
    exact p.push nD2 (stRI _) (by omega) (Same.refl _) (by simp [RI, fb])
  obtain ⟨eD2, s4⟩ := madeRI p
  have e2 : (List.range bvs.length).map (fun j => ((bs.map (·.2))[j]?.getD 0)) = bs.map (·.2) := by
    apply List.ext_getElem?
    intro j
    by_cases hj : j < bs.length
    · simp [lb, hj]
    · rw [List.getElem?_eq_none (by simp; omega), List.getElem?_eq_none (by simp; omega)]
  rw [e2] at eD2
  have sA := Same.trans s3 s4
  refine ⟨_, D2, (ns, m), bs.map (·.2), rfl, SumIn.mono sA hv, .inl (.of eD2), by simp [hl], by simp; omega, fun n hn => up4 (n := 0) (w1 n hn), fun x hx => ?_, fun H5 s5 => ?_⟩
  · obtain ⟨b, hb, rfl⟩ := List.mem_map.mp hx
    exact up4 (n := 0) (w2 b hb).1
  refine ⟨by show 2 ≤ sizeLine; decide, fun W nW => ?_⟩
  refine q _ _ (Same.trans sA (Same.trans s5 (sameNew nW))) ?_
  rw [putCols hw]
  exact ⟨W, T, rfl, .of upd_same, tupS (Same.trans s4 (Same.trans s5 (sameNew nW))) (.of upd_same)⟩

end

end LW

namespace LW
open PySem PySem.Spec PyProof.Rows L2
local macro_rules | `(tactic| walk_at "go1") => `(tactic| first
  | refine ⟨_, rfl, ?_⟩
  | refine ⟨_, _, rfl, rfl, ?_⟩
  | refine ⟨show (0 : Int) < _ from by omega, ?_⟩
  | refine ⟨show CMul _ _ from by first | exact .inl ⟨by omega, by omega⟩ | exact .inr ⟨by omega, by omega⟩, ?_⟩
  | refine ⟨show CDiv _ _ from ⟨by omega, by omega⟩, ?_⟩)
local macro_rules | `(tactic| walk_at "go") => `(tactic| repeat walk_at "go1")

section
variable {P : Program} {w : World} {K : PySem.W.Frag} {mg : Str → Option Value} {base : Heap}

/-- the numbers of a sum over so many boxes in which one counts -/
def unitN (n : Int) (b m : Nat) : List Int := (List.range m).map fun at_ => if at_ = b then n else 0
theorem unit_len (n : Int) (b m : Nat) : (unitN n b m).length = m := by simp [unitN]
abbrev s__of_one_box : Stmt := topS 37
theorem sc__of_one_box : FnScope ["number", "box", "many", "at"] ["number", "box", "many"] (defScope s__of_one_box) := ⟨rfl, rfl, rfl, by decide +kernel, rfl, by decide +kernel, by decide +kernel⟩

def spOne (K : PySem.W.Frag) : Sp := fun vs H Q _ => ∃ (n : Int) (b m : Nat), vs = [.int n, .int (b : Int), .int (m : Int)] ∧ m ≤ 1000 ∧ ∀ (r : Addr) (H' : Hp), Same H H' → SqT K H' r ((unitN n b m).map V.int) → Q (.ref r) H'
theorem ok__of_one_box {f : Addr} {fd : FuncData} {k : Nat} (F : Fun K "_of_one_box" "_of_one_box" s__of_one_box f fd) (B : Bl mg) : FnOk P w K mg base CX0 (k + 1) f fd ["number", "box", "many"] (spOne K) := by
  refine F.ok sc__of_one_box (fun vs H Q E h => ?_) (fun cdv A outer s H vs Q E hr h => ?_)
  · obtain ⟨n, b, m, rfl, _⟩ := h
    rfl
  obtain ⟨n, b, m, rfl, hm, q⟩ := h
  refine ⟨_, (pss_one (ps_ret (pe_callTy (kTup (K := K) rfl) (by rfl) B.tuple (by decide +kernel) (pa_cons (pe_lc (own := [("at", 3)]) rfl sc__of_one_box.nd (pi_range1 (by rfl) B.range (pa_cons (pv 2) pa_nil)) (blkOk_by (own := [("at", 3)]) (N := ["number", "box", "many", "at"]) (sc := defScope s__of_one_box) (by decide +kernel)) (fun _ _ _ _ _ => (pgN (i := 3) sc__of_one_box.nd rfl (.inl rfl) (.inr rfl))) (fun _ _ _ _ _ => pts_nil) (fun _ _ _ _ _ => (pe_ifExp (pt_cmpR op_eq (pv 3) (pv 1) (nomark _)) (pv 0) pe_int))) pa_nil)))), ?_⟩
  refine ⟨_, rfl, _, rfl, by omega, by omega, fun D nD => ?_⟩
  refine lc_it walk_range (Made H D (RI fun i => if i = b then n else 0)) (made0 nD) (fun _ _ _ _ => trivial) (fun i x H1 H2 hi p y => ?_) (fun H1 p => ?_)
  · obtain ⟨rfl, rfl⟩ := y
    refine ⟨rfl, ?_⟩
    refine lcYes ?_
    have ei : (0 : Int) + (i : Int) = (i : Int) := by omega
    refine ⟨_, rfl, _, rfl, rfl, _, rfl, ?_⟩
    refine ite2 (fun e => ?_) (fun e => ?_)
    · have e' := of_decide_eq_true e
      injection e' with e'
      have : i = b := by omega
      exact ⟨_, rfl, p.push nD (stRI _) (by omega) (Same.refl _) (by simp [RI, this])⟩
    · have : i ≠ b := fun z => e (decide_eq_true (by subst z; exact congrArg V.int (by omega)))
      exact p.push nD (stRI _) (by omega) (Same.refl _) (by simp [RI, this])
  obtain ⟨eD, s1⟩ := madeRI p
  refine ⟨_, _, rfl, .inl ⟨.of eD, fun r nr => ?_⟩⟩
  refine q r _ (Same.trans s1 (sameNew nr)) ?_
  have e2 : ((m : Int)).toNat = m := by omega
  rw [e2]
  exact .of upd_same
/-- what is asked at a say or a loop -/
def bnd (tops : List Int) : List Sm := tops.zipIdx.flatMap fun q => [(unitN (-1) q.2 tops.length, 0), (unitN 1 q.2 tops.length, -q.1)]
/-- the bounds of the first boxes -/
def bnd' (m : Nat) (l : List Int) : List Sm := l.zipIdx.flatMap fun q => [(unitN (-1) q.2 m, 0), (unitN 1 q.2 m, -q.1)]
theorem bnd_eq (tops : List Int) : bnd tops = bnd' tops.length tops := rfl
theorem bnd_take {m : Nat} {l : List Int} {j : Nat} {x : Int} (e : l[j]? = some x) : bnd' m (l.take (j + 1)) = bnd' m (l.take j) ++ [(unitN (-1) j m, 0), (unitN 1 j m, -x)] := by
  obtain ⟨hj, e1⟩ := List.getElem?_eq_some_iff.mp e
  subst e1
  rw [bnd', bnd', List.take_succ_eq_append_getElem hj, List.zipIdx_append, List.flatMap_append]
  congr 1
  simp [List.length_take, Nat.min_eq_left (Nat.le_of_lt hj)]
def askP (tops : List Int) : Rs → List Sm
  | .say w _ => [w]
  | .loop _ ws _ _ => ws ++ bnd tops
  | _ => []
theorem bnd_key : ∀ (l : List (Int × Nat)) (m : Nat), (l.flatMap fun q => [((unitN (-1) q.2 m, 0) : Sm), (unitN 1 q.2 m, -q.1)]).length = 2 * l.length := by
  intro l m
  induction l with
  | nil => rfl
  | cons q r ih => rw [List.flatMap_cons, List.length_append, ih, List.length_cons]; simp; omega
theorem bnd_len (tops : List Int) : (bnd tops).length = 2 * tops.length := by
  rw [bnd, bnd_key, List.length_zipIdx]
theorem unit_wd {n : Int} {b m : Nat} (h : -1 ≤ n ∧ n ≤ 1) : ∀ x ∈ unitN n b m, Wd 8 x := fun x hx => by
  obtain ⟨j, _, rfl⟩ := List.mem_map.mp hx
  split <;> exact wdSm (by omega) (by omega)
theorem ask_good {tops : List Int} {rs : Rs} (ht : TopsW tops) (hw : rs.W tops.length) : ∀ s ∈ askP tops rs, s.1.length = tops.length ∧ Wd 8 s.2 ∧ ∀ x ∈ s.1, Wd 8 x := fun s hs => by
  cases rs with
  | say w t =>
    rw [List.mem_singleton.mp hs]
    exact sumW_wd hw.1
  | loop w ws b t =>
    rcases List.mem_append.mp hs with hs | hs
    · exact sumW_wd (hw.2.1 s hs)
    · obtain ⟨⟨top, i⟩, hq, hs⟩ := List.mem_flatMap.mp hs
      have mt : top ∈ tops := by
        have := List.mem_zipIdx_iff_getElem?.mp hq
        exact List.mem_of_getElem? this
      have h9 := ht.2.2 top mt
      rcases List.mem_cons.mp hs with rfl | hs
      · exact ⟨unit_len .., wdSm (by omega) (by omega), unit_wd (by omega)⟩
      · rw [List.mem_singleton.mp hs]
        exact ⟨unit_len .., wdSm (by dsimp only; omega) (by dsimp only; omega), unit_wd (by omega)⟩
  | _ => cases hs
theorem pgT {H : Hp} {C x : Addr} {tops : List Int} {R : Rs} (h : PgIn K H C x tops R) : R.W tops.length ∧ TopsW tops ∧ R.num ≤ 12 ∧ R.dep ≤ 3 := by
  obtain ⟨_, _, _, _, _, _, h1, h2, h3, h4⟩ := h
  exact ⟨h1, h4, h3, h2⟩
theorem PgIn.pr {H : Hp} {C x : Addr} {tops : List Int} {R : Rs} (h : PgIn K H C x tops R) : ∃ rv, PrIn K H C x tops rv := by
  obtain ⟨a, _, h1, _⟩ := h
  exact ⟨_, h1⟩
theorem sumsDin {H : Hp} : ∀ {vs : List V} {ss : List Sm}, DinA K H vs (ss.map dSm) → A2 (SumIn K H) vs ss
  | _, [], .nil => .nil
  | _, _ :: _, .cons h t => .cons (sumDin h) (sumsDin t)
theorem sumsS {H H' : Hp} {vs : List V} {ss : List Sm} (e : TS H H') (h : A2 (SumIn K H) vs ss) : A2 (SumIn K H') vs ss := A2.map (B' := ss) (fun _ _ _ r => tsSum e r) (fun _ m => m) h
theorem a2p {α β : Type} {S : α → β → Prop} : ∀ {a : List α} {b : List β}, A2 S a b → Paired S a b
  | _, _, .nil => .nil
  | _, _, .cons h t => .cons h (a2p t)
theorem lkTopsNo {a b : V} {s : Str} (h1 : (s == ("_tops" : Str)) = false) (h2 : (s == ("rows" : Str)) = false) : List.lookup s ([(("_tops" : Str), a), (("rows" : Str), b)] : List (Str × V)) = none := by simp [List.lookup, h1, h2]
abbrev s_asked : Stmt := topS 31
theorem sc_asked : FnScope ["program", "place", "row", "tops", "told", "box", "top"] ["program", "place"] (defScope s_asked) := ⟨rfl, rfl, rfl, by decide +kernel, rfl, by decide +kernel, by decide +kernel⟩

def spAsked (K : PySem.W.Frag) (C : Addr) : Sp := fun vs H Q _ => ∃ (x pa : Addr) (tops : List Int) (R : Rs) (p : Pos'), vs = [.ref x, .ref pa] ∧ PgIn K H C x tops R ∧ At R p.ah p.i p.rs p.fr ∧ ((∃ w t, p.rs = .say w t) ∨ ∃ w ws b t, p.rs = .loop w ws b t) ∧ SqT K H pa (nats (p.ah ++ [p.i])) ∧
  ∀ (l : Addr) (us : List V) (H' : Hp), H l = none → Same H H' → H' l = some (.lst us) → A2 (SumIn K H') us (askP tops p.rs) → Q (.ref l) H'
theorem ok_asked {f C : Addr} {fd : FuncData} {k : Nat} (F : Fun K "asked" "asked" s_asked f fd) (B : Bl mg) (qcl : Cls K C) (q_row : CalM P w K mg base (k + 1) C "row" (spRowAt K C)) (q_tops : CalP P w K mg base k C "tops" (spTopsP K C)) (c__of_one_box : C8.Cal P w K mg base (k + 1) "_of_one_box" (spOne K) []) : FnOk P w K mg base CX0 (k + 2) f fd ["program", "place"] (spAsked K C) := by
  refine F.ok sc_asked (fun vs H Q E h => ?_) (fun cdv A outer s H vs Q E hr h => ?_)
  · obtain ⟨x, pa, tops, R, p, rfl, _⟩ := h
    rfl
  obtain ⟨x, pa, tops, R, ⟨ah, i, rs, fr⟩, rfl, hP, hA, hk, hp, q⟩ := h
  dsimp only at hA hk hp q
  refine ⟨_, (pss_cons (ps_set (i := 2) sc_asked.nd rfl (.inl rfl) (pM q_row qcl hr (by omega) (pv 0) (pa_cons (pv 1) pa_nil)))
    (pss_cons (ps_if (pt_cmpR op_eq (pe_ix (kIxT (K := K) rfl) (pv 2) pe_int (fun _ _ => rfl)) pe_str (nomark _))
      (pss_one (ps_ret (pe_lst (pa_cons (pe_ix (kIxT (K := K) rfl) (pv 2) pe_int (fun _ _ => rfl)) pa_nil))))
      pss_nil)
    (pss_cons (ps_set (i := 3) sc_asked.nd rfl (.inl rfl) (pP q_tops qcl hr (by omega) (pv 0)))
    (pss_cons (ps_set (i := 4) sc_asked.nd rfl (.inl rfl) (pe_callTy (kList (K := K) rfl) (by rfl) B.list (by decide +kernel) (pa_cons (pe_ix (kIxT (K := K) rfl) (pv 2) pe_int (fun _ _ => rfl)) pa_nil)))
    (pss_cons (ps_for PassesOwn.never rfl (kE (K := K) rfl false (by rfl) B.enumerate (pa_cons (pv 3) pa_nil)) (kT2 (K := K) rfl rfl (pg_name (i := 5) sc_asked.nd rfl (.inl rfl)) (pg_name (i := 6) sc_asked.nd rfl (.inl rfl)))
      (pss_cons (ps_expr (pe_bm PySem.F.plainAttrs_list PySem.F.slot_list_append PySem.F.type_list_append mt_append (pv 4) (pa_cons (pe_tup (pa_cons (C8.pe_c c__of_one_box hr (Nat.le_refl _) (by rfl) (pa_cons (pe_un un_neg pe_int) (pa_cons (pv 5) (pa_cons (pe_callB (kLen (K := K) rfl) (by rfl) B.len PySem.boot_len (pa_cons (pv 3) pa_nil)) pa_nil)))) (pa_cons pe_int pa_nil))) pa_nil)))
      (pss_one (ps_expr (pe_bm PySem.F.plainAttrs_list PySem.F.slot_list_append PySem.F.type_list_append mt_append (pv 4) (pa_cons (pe_tup (pa_cons (C8.pe_c c__of_one_box hr (Nat.le_refl _) (by rfl) (pa_cons pe_int (pa_cons (pv 5) (pa_cons (pe_callB (kLen (K := K) rfl) (by rfl) B.len PySem.boot_len (pa_cons (pv 3) pa_nil)) pa_nil)))) (pa_cons (pe_un un_neg (pv 6)) pa_nil))) pa_nil))))))
    (pss_one (ps_ret (pv 4)))))))), ?_⟩
  obtain ⟨dx, tt, aa, hx⟩ := hP.obj
  have n : rs.isNil = false := by rcases hk with ⟨_, _, rfl⟩ | ⟨_, _, _, _, rfl⟩ <;> rfl
  refine ⟨_, rfl, x, dx, _, rfl, hx, lkRow, _, rfl, rowSp (E := C8.E0) hP hA n hp fun H1 v s1 hv => ?_⟩
  rcases hk with ⟨w, t, rfl⟩ | ⟨w, ws, b, t, rfl⟩
  · cases hv with
    | @tup ra rx _ hR hRA =>
    cases hRA with
    | cons k0 kA =>
    cases k0
    cases kA with
    | cons k1 kA =>
    cases kA
    refine ⟨_, rfl, _, _, _, _, rfl, rfl, hR, atI_nat (j := 0) rfl, rfl, _, rfl, ?_⟩
    refine yesDec (fun c => ?_) (fun c => absurd (strEq.mpr rfl) c)
    refine ⟨_, rfl, _, _, _, _, rfl, rfl, hR, atI_nat (j := 1) rfl, by show 1 ≤ sizeLine; decide, fun l nl => ?_⟩
    exact q l _ _ (Same.free s1 nl) (Same.trans s1 (sameNew nl)) upd_same (.cons (SumIn.mono (sameNew nl) (sumDin k1)) .nil)
  · cases hv with
    | @tup ra rx _ hR hRA =>
    cases hRA with
    | cons k0 kA =>
    cases k0
    cases kA with
    | cons k1 kA =>
    cases kA with
    | cons k2 kA =>
    refine ⟨_, rfl, _, _, _, _, rfl, rfl, hR, atI_nat (j := 0) rfl, rfl, _, rfl, ?_⟩
    refine yesDec (fun c => absurd (strEq.mp c) (by decide +kernel)) (fun c => ?_)
    cases k2 with
    | @tup wa wx _ hWT hWA =>
    have hWs := sumsDin hWA
    obtain ⟨hRW, hTW, _, _⟩ := pgT hP
    have lws : ws.length ≤ 3 := (hA.w hRW).2.2.1
    obtain ⟨rv, hpr⟩ := (hP.same s1).pr
    refine ⟨_, rfl, x, dx, _, rfl, s1 _ _ hx, x, tops, rv, rfl, hpr, fun tl H2 ntl s2 htl => ?_⟩
    have s02 := Same.trans s1 s2
    refine ⟨_, rfl, _, _, _, _, rfl, rfl, tupS s2 hR, atI_nat (j := 2) rfl, wa, wx, rfl, .inr (tupS s2 hWT), fun L nL => ?_⟩
    have sL := sameNew (o := .lst wx) nL
    have nL0 : H L = none := Same.free s02 nL
    have htl3 : upd H2 L (.lst wx) tl = some (.lst (tops.map V.int)) := sL _ _ htl
    have nLt : tl ≠ L := fun e => by rw [e, nL] at htl; cases htl
    refine ⟨_, rfl, tl, _, rfl, .of htl3, ?_⟩
    have lwx := hWs.len
    have lt3 := hTW.2.1
    have szl : (1000 : Nat) < sizeLine := by decide
    refine for_it (walkE (b := false) (xs := tops.map V.int)) (fun j σ H' => ∃ (us : List V) (y5 y6 : Option V), σ = [some (.ref x), some (.ref pa), some (.ref ra), some (.ref tl), some (.ref L), y5, y6] ∧ Same H H' ∧ H' tl = some (.lst (tops.map V.int)) ∧ H' L = some (.lst us) ∧ A2 (SumIn K H') us (ws ++ bnd' tops.length (tops.take j)))
      ⟨wx, none, none, rfl, sameMut s02 nL0, htl3, upd_same, by simpa [bnd'] using sumsS (tsOf (Same.trans s2 sL)) hWs⟩ (fun j σ H' _ p => ?_) (fun j z σ H3 H4 hj p y => ?_) (fun σ H' p => ?_)
    · obtain ⟨us, y5, y6, rfl, sm, ht, _⟩ := p
      exact .of ht
    · obtain ⟨us, y5, y6, rfl, sm, ht, hl, hu⟩ := p
      obtain ⟨T, x1, x2, rfl, nT, rfl, e1, e2⟩ := y
      cases e1
      have hj1 : j < tops.length := by simpa using hj
      have f2 := mapAt e2 hj1
      subst f2
      have sT := sameNew (o := .tup [.int (j : Nat), .int tops[j]]) nT
      refine ⟨_, _, rfl, .of upd_same, rfl, _, _, rfl, _, _, rfl, rfl, ?_⟩
      have ht5 := sT _ _ ht
      have hl5 := sT _ _ hl
      have sm5 := Same.trans sm sT
      have hu5 := sumsS (tsOf sT) hu
      have lus := hu.len
      have lb : (bnd' tops.length (tops.take j)).length ≤ 6 := by
        have : (bnd' tops.length (tops.take j)).length = 2 * (tops.take j).length := by
          rw [show bnd' tops.length (tops.take j) = (tops.take j).zipIdx.flatMap fun q => [((unitN (-1) q.2 tops.length, 0) : Sm), (unitN 1 q.2 tops.length, -q.1)] from rfl, bnd_key, List.length_zipIdx]
        rw [this, List.length_take]
        omega
      rw [List.length_append] at lus
      generalize upd H3 T (.tup [.int (j : Nat), .int tops[j]]) = H5 at *
      clear hl ht sT nT sm hu
      -- the first one
      refine ⟨_, rfl, .inl ⟨rfl, _, .of hl5⟩, _, rfl, _, rfl, _, rfl, _, _, rfl, .inl (.of ht5), -1, j, tops.length, by simp, by omega, fun r H6 s6 hr => ?_⟩
      refine ⟨by show 2 ≤ sizeLine; decide, fun U nU => ?_⟩
      have sU := sameNew (o := .tup [.ref r, .int 0]) nU
      have s6U := Same.trans s6 sU
      refine ⟨L, us, _, rfl, rfl, s6U _ _ hl5, by omega, ?_⟩
      have t7 : TS H5 (upd (upd H6 U (.tup [.ref r, .int 0])) L (.lst (us ++ [.ref U]))) := TS.trans (tsOf s6U) (tsLst (s6U _ _ hl5))
      have u1 : SumIn K (upd (upd H6 U (.tup [.ref r, .int 0])) L (.lst (us ++ [.ref U]))) (.ref U) (unitN (-1) j tops.length, 0) := ⟨U, r, rfl, tsTup (tsLst (s6U _ _ hl5)) (.of upd_same), tsTup (TS.trans (tsOf sU) (tsLst (s6U _ _ hl5))) hr⟩
      have ht7 : upd (upd H6 U (.tup [.ref r, .int 0])) L (.lst (us ++ [.ref U])) tl = some (.lst (tops.map V.int)) := by rw [upd_ne nLt]; exact s6U _ _ ht5
      have hl7 : upd (upd H6 U (.tup [.ref r, .int 0])) L (.lst (us ++ [.ref U])) L = some (.lst (us ++ [.ref U])) := upd_same
      have sm7 : Same H (upd (upd H6 U (.tup [.ref r, .int 0])) L (.lst (us ++ [.ref U]))) := sameMut (Same.trans sm5 s6U) nL0
      have hu7 := sumsS t7 hu5
      generalize upd (upd H6 U (.tup [.ref r, .int 0])) L (.lst (us ++ [.ref U])) = H7 at *
      clear t7 s6U sU nU s6 hr hl5 ht5 hu5 sm5
      -- the second one
      refine ⟨_, rfl, .inl ⟨rfl, _, .of hl7⟩, _, rfl, _, rfl, _, _, rfl, .inl (.of ht7), 1, j, tops.length, by simp, by omega, fun r2 H8 s8 hr2 => ?_⟩
      refine ⟨_, rfl, _, rfl, by show 2 ≤ sizeLine; decide, fun U2 nU2 => ?_⟩
      have sU2 := sameNew (o := .tup [.ref r2, .int (-tops[j])]) nU2
      have s8U := Same.trans s8 sU2
      refine ⟨L, us ++ [.ref U], _, rfl, rfl, s8U _ _ hl7, by simp; omega, ?_⟩
      have t9 : TS H7 (upd (upd H8 U2 (.tup [.ref r2, .int (-tops[j])])) L (.lst (us ++ [.ref U] ++ [.ref U2]))) := TS.trans (tsOf s8U) (tsLst (s8U _ _ hl7))
      refine ⟨us ++ [.ref U] ++ [.ref U2], _, _, rfl, sameMut (Same.trans sm7 s8U) nL0, by rw [upd_ne nLt]; exact s8U _ _ ht7, upd_same, ?_⟩
      rw [bnd_take (List.getElem?_eq_getElem hj1), ← List.append_assoc]
      have u2 : SumIn K (upd (upd H8 U2 (.tup [.ref r2, .int (-tops[j])])) L (.lst (us ++ [.ref U] ++ [.ref U2]))) (.ref U2) (unitN 1 j tops.length, -tops[j]) := ⟨U2, r2, rfl, tsTup (tsLst (s8U _ _ hl7)) (.of upd_same), tsTup (TS.trans (tsOf sU2) (tsLst (s8U _ _ hl7))) hr2⟩
      have h2 := (sumsS t9 hu7).app (.cons (tsSum t9 u1) (.cons u2 .nil))
      rw [show us ++ [V.ref U, V.ref U2] = us ++ [V.ref U] ++ [V.ref U2] by simp] at h2
      exact h2
    · obtain ⟨us, y5, y6, rfl, sm, ht, hl, hu⟩ := p
      rw [List.length_map, List.take_length, ← bnd_eq] at hu
      exact ⟨_, rfl, q L us H' nL0 sm hl hu⟩

end

end LW

namespace LW
open PySem PySem.Spec PyProof.Rows L2
local macro_rules | `(tactic| walk_at "go1") => `(tactic| first
  | refine ⟨_, rfl, ?_⟩
  | refine ⟨_, _, rfl, rfl, ?_⟩
  | refine ⟨show (0 : Int) < _ from by omega, ?_⟩
  | refine ⟨show CMul _ _ from by first | exact .inl ⟨by omega, by omega⟩ | exact .inr ⟨by omega, by omega⟩, ?_⟩
  | refine ⟨show CDiv _ _ from ⟨by omega, by omega⟩, ?_⟩)
local macro_rules | `(tactic| walk_at "go") => `(tactic| repeat walk_at "go1")

section
variable {P : Program} {w : World} {K : PySem.W.Frag} {mg : Str → Option Value} {base : Heap}

/-- a way in the heap; the lists of it are none of Ls -/
def WayIn (K : PySem.W.Frag) (Ls : List Addr) (H : Hp) (v : V) (x : Option Pos' × St') : Prop := ∃ (t tr bl wl : Addr) (pv : V) (bvs wvs : List V), v = .ref t ∧ SqT K H t [.ref tr, pv, .int (x.2.many : Int), .ref bl, .ref wl] ∧ SqT K H tr (x.2.truths.map V.bl) ∧ PlO K H pv x.1 ∧
  H bl = some (.lst bvs) ∧ A2 (SumIn K H) bvs x.2.boxes ∧ H wl = some (.lst wvs) ∧ A2 (SumIn K H) wvs x.2.words ∧ bl ∉ Ls ∧ wl ∉ Ls
theorem WayIn.same {Ls : List Addr} {H H' : Hp} {v : V} {x : Option Pos' × St'} (e : Same H H') (h : WayIn K Ls H v x) : WayIn K Ls H' v x := by
  obtain ⟨t, tr, bl, wl, pv, bvs, wvs, e0, h1, h2, h3, h4, h5, h6, h7, h8⟩ := h
  exact ⟨t, tr, bl, wl, pv, bvs, wvs, e0, tupS e h1, tupS e h2, h3.same e, e _ _ h4, sumsS (tsOf e) h5, e _ _ h6, sumsS (tsOf e) h7, h8⟩
theorem PlO.ts {H H' : Hp} {v : V} {o : Option Pos'} (e : TS H H') (h : PlO K H v o) : PlO K H' v o := by
  cases o with
  | none => exact h
  | some p =>
    obtain ⟨pa, e0, h1⟩ := h
    exact ⟨pa, e0, tsTup e h1⟩
theorem WayIn.mut {Ls : List Addr} {H : Hp} {L : Addr} {xs ys : List V} {v : V} {x : Option Pos' × St'} (hL : L ∈ Ls) (e : H L = some (.lst xs)) (h : WayIn K Ls H v x) : WayIn K Ls (upd H L (.lst ys)) v x := by
  obtain ⟨t, tr, bl, wl, pv, bvs, wvs, e0, h1, h2, h3, h4, h5, h6, h7, h8, h9⟩ := h
  have t0 : TS H (upd H L (.lst ys)) := tsLst e
  have n1 : bl ≠ L := fun z => h8 (by rw [z]; exact hL)
  have n2 : wl ≠ L := fun z => h9 (by rw [z]; exact hL)
  exact ⟨t, tr, bl, wl, pv, bvs, wvs, e0, tsTup t0 h1, tsTup t0 h2, h3.ts t0, by rw [upd_ne n1]; exact h4, sumsS t0 h5, by rw [upd_ne n2]; exact h6, sumsS t0 h7, h8, h9⟩
theorem WayIn.less {Ls Ms : List Addr} {H : Hp} {v : V} {x : Option Pos' × St'} (h : WayIn K Ls H v x) (l : ∀ a ∈ Ms, H a = none ∨ a ∈ Ls) : WayIn K Ms H v x := by
  obtain ⟨t, tr, bl, wl, pv, bvs, wvs, e0, h1, h2, h3, h4, h5, h6, h7, h8, h9⟩ := h
  refine ⟨t, tr, bl, wl, pv, bvs, wvs, e0, h1, h2, h3, h4, h5, h6, h7, fun z => ?_, fun z => ?_⟩
  · rcases l _ z with e | e
    · rw [e] at h4; cases h4
    · exact h8 e
  · rcases l _ z with e | e
    · rw [e] at h6; cases h6
    · exact h9 e
theorem waysS {Ls : List Addr} {H H' : Hp} {vs : List V} {xs : List (Option Pos' × St')} (e : Same H H') (h : A2 (WayIn K Ls H) vs xs) : A2 (WayIn K Ls H') vs xs := A2.map (B' := xs) (fun _ _ _ r => r.same e) (fun _ m => m) h
theorem waysMut {Ls : List Addr} {H : Hp} {L : Addr} {zs ys : List V} {vs : List V} {xs : List (Option Pos' × St')} (hL : L ∈ Ls) (e : H L = some (.lst zs)) (h : A2 (WayIn K Ls H) vs xs) : A2 (WayIn K Ls (upd H L (.lst ys))) vs xs := A2.map (B' := xs) (fun _ _ _ r => r.mut hL e) (fun _ m => m) h
theorem pIn_eq {n : Nat} {s : Sm} {bs : List Sm} (ln : bs.length = n) (n1 : 1 ≤ n) (hw : ∀ b ∈ bs, b.1.length = n) : widthOf bs = n ∧ putIn s bs = pIn s bs := by
  have wd : widthOf bs = n := by
    cases bs with
    | nil => simp at ln; omega
    | cons b r => exact hw b (List.mem_cons_self ..)
  refine ⟨wd, ?_⟩
  rw [putCols (fun b hb => by rw [wd]; exact hw b hb), pIn, wd, ln]
  congr 1
  apply List.map_congr_left
  intro j _
  simp [val, colS]
theorem putUse {H : Hp} {Q : VK} {E : XK} {v : V} {bl : Addr} {s : Sm} {bvs : List V} {bs : List Sm} {n w : Nat} (hv : SumIn K H v s) (hb : H bl = some (.lst bvs)) (hs : A2 (SumIn K H) bvs bs) (ln : bs.length = n) (n1 : 1 ≤ n) (n3 : n ≤ 3) (gb : GoodB n w bs) (hw : w ≤ 100000)
    (hl : s.1.length = n ∧ Wd 9 s.2 ∧ ∀ x ∈ s.1, Wd 9 x) (q : ∀ (H' : Hp) (v' : V), Same H H' → SumIn K H' v' (pIn s bs) → Q v' H') : spPut K [v, .ref bl] H Q E := by
  obtain ⟨wd, e⟩ := pIn_eq (s := s) ln n1 fun b hb => (gb b hb).1
  exact ⟨v, bl, s, bvs, bs, rfl, hv, .of hb, a2p hs, by rw [hl.1, ln], by omega, by omega, by omega, fun b hb => by rw [wd]; exact (gb b hb).1, fun x hx => (hl.2.2 x hx).mono (by omega), fun b hb => ⟨(gb b hb).2.1.mono hw, fun x hx => ((gb b hb).2.2 x hx).mono hw⟩, fun H' v' s' h' => q H' v' s' (by rw [← e]; exact h')⟩
def wordOf : Rs → Sm
  | .ite w _ _ _ => w
  | .loop w _ _ _ => w
  | .say w _ => w
  | _ => ([], 0)
abbrev s__both : Stmt := topS 36
theorem sc__both : FnScope ["program", "way", "truths", "place", "many", "boxes", "words", "word", "holds", "then"] ["program", "way"] (defScope s__both) := ⟨rfl, rfl, rfl, by decide +kernel, rfl, by decide +kernel, by decide +kernel⟩

def spBoth (K : PySem.W.Frag) (C : Addr) : Sp := fun vs H Q _ => ∃ (x : Addr) (wv : V) (tops : List Int) (R : Rs) (p : Pos') (st : St') (Ls : List Addr), vs = [.ref x, wv] ∧ PgIn K H C x tops R ∧ At R p.ah p.i p.rs p.fr ∧ ((∃ w a b t, p.rs = .ite w a b t) ∨ ∃ w ws b t, p.rs = .loop w ws b t) ∧ WayIn K Ls H wv (some p, st) ∧ GoodSt tops.length 1 st ∧ (∀ L ∈ Ls, H L ≠ none) ∧
  ∀ (l : Addr) (us : List V) (H' : Hp), H l = none → Same H H' → H' l = some (.lst us) → A2 (WayIn K (l :: Ls) H') us [(p.go false, st.turn (wordOf p.rs) false), (p.go true, st.turn (wordOf p.rs) true)] → Q (.ref l) H'
theorem ok__both {f C : Addr} {fd : FuncData} {k : Nat} (F : Fun K "_both" "_both" s__both f fd) (B : Bl mg) (qcl : Cls K C) (q_row : CalM P w K mg base k C "row" (spRowAt K C)) (c_put_in : C8.Cal P w K mg base k "put_in" (spPut K) []) (c_opposite : C8.Cal P w K mg base k "opposite" (spOpp K) []) (c_beyond : C8.Cal P w K mg base k "beyond" (spBeyond K C) []) : FnOk P w K mg base CX0 (k + 1) f fd ["program", "way"] (spBoth K C) := by
  refine F.ok sc__both (fun vs H Q E h => ?_) (fun cdv A outer s H vs Q E hr h => ?_)
  · obtain ⟨x, wv, tops, R, p, st, Ls, rfl, _⟩ := h
    rfl
  obtain ⟨x, wv, tops, R, p, st, Ls, rfl, hP, hA, hk, hw, hg, hLs, q⟩ := h
  obtain ⟨t, tr, bl, wl, pv, bvs, wvs, rfl, h1, h2, ⟨pa, rfl, h3⟩, h4, h5, h6, h7, h8, h9⟩ := hw
  refine ⟨_, (pss_cons (ps_asg (pv 1) (kTn (K := K) rfl rfl (pgs_cons (pg_name (i := 2) sc__both.nd rfl (.inr rfl)) (pgs_cons (pg_name (i := 3) sc__both.nd rfl (.inr rfl)) (pgs_cons (pg_name (i := 4) sc__both.nd rfl (.inr rfl)) (pgs_cons (pg_name (i := 5) sc__both.nd rfl (.inr rfl)) (pgs_cons (pg_name (i := 6) sc__both.nd rfl (.inr rfl)) pgs_nil)))))))
    (pss_cons (ps_set (i := 7) sc__both.nd rfl (.inl rfl) (C8.pe_c c_put_in hr (Nat.le_refl _) (by rfl) (pa_cons (pe_ix (kIxT (K := K) rfl) (pM q_row qcl hr (by omega) (pv 0) (pa_cons (pv 3) pa_nil)) pe_int (fun _ _ => rfl)) (pa_cons (pv 5) pa_nil))))
    (pss_one (ps_ret (pe_lc (own := [("holds", 8), ("then", 9)]) rfl sc__both.nd (kTup_ (K := K) rfl (pe_tup (pa_cons (pe_tup (pa_cons pe_bl (pa_cons (C8.pe_c c_opposite hr (Nat.le_refl _) (by rfl) (pa_cons (pv 7) pa_nil)) pa_nil))) (pa_cons (pe_tup (pa_cons pe_bl (pa_cons (pv 7) pa_nil))) pa_nil)))) (blkOk_by (own := [("holds", 8), ("then", 9)]) (N := ["program", "way", "truths", "place", "many", "boxes", "words", "word", "holds", "then"]) (sc := defScope s__both) (by decide +kernel)) (fun _ _ _ _ _ => (pgT2 (K := K) rfl (pgN (i := 8) sc__both.nd rfl (.inl rfl) (.inr rfl)) (pgN (i := 9) sc__both.nd rfl (.inl rfl) (.inr rfl)) rfl (by rfl) (by rfl) (by rfl) (by rfl))) (fun _ _ _ _ _ => pts_nil) (fun _ _ _ _ _ => (pe_tup (pa_cons (pe_op (kCatT (K := K) rfl) (pv 2) (pe_tup (pa_cons (pv 8) pa_nil))) (pa_cons (C8.pe_c c_beyond hr (Nat.le_refl _) (by rfl) (pa_cons (pv 0) (pa_cons (pv 3) (pa_cons (pv 8) pa_nil)))) (pa_cons (pe_op op_add (pv 4) pe_int) (pa_cons (pv 5) (pa_cons (pe_op op_cat (pv 6) (pe_lst (pa_cons (pv 9) pa_nil))) pa_nil)))))))))))), ?_⟩
  obtain ⟨dx, tt, aa, hx⟩ := hP.obj
  obtain ⟨hRW, hTW, _, _⟩ := pgT hP
  have n : p.rs.isNil = false := by rcases hk with ⟨_, _, _, _, e⟩ | ⟨_, _, _, _, e⟩ <;> rw [e] <;> rfl
  have hWw : SumW tops.length (wordOf p.rs) := by
    have := hA.w hRW
    rcases hk with ⟨_, _, _, _, e⟩ | ⟨_, _, _, _, e⟩ <;> (rw [e] at this ⊢; exact this.1)
  have szl : (100000 : Nat) < sizeLine := by decide
  have lwv : wvs.length = st.words.length := h7.len
  refine ⟨_, rfl, _, _, rfl, h1, rfl, _, _, rfl, _, _, rfl, _, _, rfl, _, _, rfl, _, _, rfl, rfl, ?_⟩
  refine ⟨_, rfl, x, dx, _, rfl, hx, lkRow, _, rfl, rowSp (E := C8.E0) hP hA n h3 fun H1 v s1 hv => ?_⟩
  -- the word of the row
  obtain ⟨ra, rx, wv0, rfl, hR, e1, hS⟩ : ∃ (ra : Addr) (rx : List V) (wv0 : V), v = .ref ra ∧ SqT K H1 ra rx ∧ rx[1]? = some wv0 ∧ SumIn K H1 wv0 (wordOf p.rs) := by
    rcases hk with ⟨w, a, b, t, e⟩ | ⟨w, ws, b, t, e⟩
    · rw [e] at hv ⊢
      cases hv with
      | @tup ra rx _ hR hRA =>
      cases hRA with
      | cons k0 kA =>
      cases kA with
      | cons k1 kA => exact ⟨ra, _, _, rfl, hR, rfl, sumDin k1⟩
    · rw [e] at hv ⊢
      cases hv with
      | @tup ra rx _ hR hRA =>
      cases hRA with
      | cons k0 kA =>
      cases kA with
      | cons k1 kA => exact ⟨ra, _, _, rfl, hR, rfl, sumDin k1⟩
  obtain ⟨g1, g2, g3, g4, g5, g6⟩ := hg
  refine ⟨_, _, _, _, rfl, rfl, hR, atI_nat (j := 1) e1, _, rfl, putUse (E := C8.E0) hS (s1 _ _ h4) (sumsS (tsOf s1) h5) g2 hTW.1 hTW.2.1 g3 (by omega) (good3 (sumW_wd hWw) (by omega)) fun H2 v2 s2 hv2 => ?_⟩
  have s02 := Same.trans s1 s2
  -- the two
  refine ⟨_, rfl, v2, _, rfl, hv2, by rw [show (pIn (wordOf p.rs) st.boxes).1.length = st.boxes.length by simp [pIn]]; have := hTW.2.1; omega, fun H3 v3 s3 hv3 => ⟨by show 2 ≤ sizeLine; decide, fun T1 nT1 => ?_⟩⟩
  refine ⟨_, rfl, by show 2 ≤ sizeLine; decide, fun T2 nT2 => ⟨by show 2 ≤ sizeLine; decide, fun TT nTT => ⟨TT, rfl, ⟨_, .of upd_same⟩, fun D nD => ?_⟩⟩⟩
  have sT1 := sameNew (o := .tup [.bl false, v3]) nT1
  have sT2 := sameNew (o := .tup [.bl true, v2]) nT2
  have sTT := sameNew (o := .tup [.ref T1, .ref T2]) nTT
  have s3T := Same.trans s3 (Same.trans sT1 (Same.trans sT2 sTT))
  have hT1 : SqT K (upd (upd (upd H3 T1 (.tup [.bl false, v3])) T2 (.tup [.bl true, v2])) TT (.tup [.ref T1, .ref T2])) T1 [.bl false, v3] := tupS (Same.trans sT2 sTT) (.of upd_same)
  have hT2 : SqT K (upd (upd (upd H3 T1 (.tup [.bl false, v3])) T2 (.tup [.bl true, v2])) TT (.tup [.ref T1, .ref T2])) T2 [.bl true, v2] := tupS sTT (.of upd_same)
  have hTT : SqT K (upd (upd (upd H3 T1 (.tup [.bl false, v3])) T2 (.tup [.bl true, v2])) TT (.tup [.ref T1, .ref T2])) TT [.ref T1, .ref T2] := .of upd_same
  have s0T := Same.trans s02 s3T
  have hs2 := SumIn.mono s3T hv2
  have hs3 := SumIn.mono (Same.trans sT1 (Same.trans sT2 sTT)) hv3
  generalize upd (upd (upd H3 T1 (.tup [.bl false, v3])) T2 (.tup [.bl true, v2])) TT (.tup [.ref T1, .ref T2]) = H5 at *
  have nDL : ∀ L ∈ D :: Ls, upd H5 D (.lst []) L ≠ none := fun L hL => by
    rcases List.mem_cons.mp hL with e | hL
    · rw [e, upd_same]; simp
    · intro z
      have := hLs L hL
      cases e : H L with
      | none => exact this e
      | some o => rw [sameNew nD _ _ (s0T _ _ e)] at z; cases z
  refine lc_it (walk_tup (xs := [.ref T1, .ref T2])) (fun j H' => Same H5 H' ∧ ∃ ys : List V, H' D = some (.lst ys) ∧ A2 (WayIn K (D :: Ls) H') ys ([(p.go false, st.turn (wordOf p.rs) false), (p.go true, st.turn (wordOf p.rs) true)].take j))
    ⟨sameNew nD, [], upd_same, .nil⟩ (fun j H1 _ p => tupS p.1 hTT) (fun j y H6 H7 hj w z => ?_) (fun H6 w => ?_)
  · obtain ⟨sm, ys, hD, hY⟩ := w
    obtain ⟨rfl, ey⟩ := z
    have hj2 : j < 2 := hj
    obtain ⟨b, Tj, vj, rfl, hTj, sj, ej⟩ : ∃ (b : Bool) (Tj : Addr) (vj : V), y = .ref Tj ∧ SqT K H5 Tj [.bl b, vj] ∧ SumIn K H5 vj (if b then pIn (wordOf p.rs) st.boxes else opp (pIn (wordOf p.rs) st.boxes)) ∧
        [(p.go false, st.turn (wordOf p.rs) false), (p.go true, st.turn (wordOf p.rs) true)].take (j + 1) = [(p.go false, st.turn (wordOf p.rs) false), (p.go true, st.turn (wordOf p.rs) true)].take j ++ [(p.go b, st.turn (wordOf p.rs) b)] := by
      match j, hj2 with
      | 0, _ =>
        cases ey
        exact ⟨false, T1, v3, rfl, hT1, hs3, rfl⟩
      | 1, _ =>
        cases ey
        exact ⟨true, T2, v2, rfl, hT2, hs2, rfl⟩
    refine ⟨_, _, rfl, tupS sm hTj, rfl, _, _, rfl, _, _, rfl, rfl, rfl, ?_⟩
    refine lcYes ?_
    have s06 := Same.trans s0T sm
    refine ⟨_, rfl, _, rfl, by show 1 ≤ sizeLine; decide, fun U nU => ?_⟩
    have sU := sameNew (o := .tup [.bl b]) nU
    refine catUse (tupS (Same.trans s06 sU) h2) (.of upd_same) (by simp; omega) fun tr2 H8 s8 htr2 => ?_
    have s6U8 := Same.trans sU s8
    have s08 := Same.trans s06 s6U8
    refine ⟨_, rfl, _, rfl, _, rfl, x, pa, tops, R, p, b, rfl, hP.same s08, hA, hk, tupS s08 h3, fun H9 pv9 s9 hpv => ?_⟩
    have s09 := Same.trans s08 s9
    refine ⟨_, rfl, _, _, rfl, rfl, _, rfl, ?_⟩
    refine ⟨_, rfl, _, rfl, by show 1 ≤ sizeLine; decide, fun Y nY => ⟨wl, Y, _, _, rfl, rfl, sameNew nY _ _ (s09 _ _ h6), upd_same, by rw [List.length_singleton]; omega, fun Z nZ => ?_⟩⟩
    have sY := sameNew (o := .lst [vj]) nY
    have sZ := sameNew (o := .lst (wvs ++ [vj])) nZ
    refine ⟨by show 5 ≤ sizeLine; decide, fun W nW => ?_⟩
    have sW := sameNew (o := .tup [.ref tr2, pv9, .int ((st.many : Int) + 1), .ref bl, .ref Z]) nW
    have s9Z := Same.trans sY sZ
    have s9W := Same.trans s9Z sW
    have sAll := Same.trans s6U8 (Same.trans s9 s9W)
    have s0W := Same.trans s09 s9W
    have new : WayIn K (D :: Ls) (upd (upd (upd H9 Y (.lst [vj])) Z (.lst (wvs ++ [vj]))) W (.tup [.ref tr2, pv9, .int ((st.many : Int) + 1), .ref bl, .ref Z])) (.ref W) (p.go b, st.turn (wordOf p.rs) b) := by
      refine ⟨W, tr2, bl, Z, pv9, bvs, wvs ++ [vj], rfl, ?_, ?_, hpv.same s9W, s0W _ _ h4, sumsS (tsOf s0W) h5, sW _ _ upd_same, ?_, fun z => ?_, fun z => ?_⟩
      · have e : (((st.turn (wordOf p.rs) b).many : Nat) : Int) = (st.many : Int) + 1 := by simp [St'.turn]
        rw [e]
        exact .of upd_same
      · have e : (st.turn (wordOf p.rs) b).truths.map V.bl = st.truths.map V.bl ++ [.bl b] := by simp [St'.turn]
        rw [e]
        exact tupS (Same.trans s9 s9W) htr2
      · exact (sumsS (tsOf s0W) h7).app (.cons (SumIn.mono (Same.trans sm sAll) sj) .nil)
      · rcases List.mem_cons.mp z with e | z
        · have := s0T _ _ h4
          rw [e, nD] at this
          cases this
        · exact h8 z
      · have ss := Same.trans s6U8 (Same.trans s9 sY)
        rcases List.mem_cons.mp z with e | z
        · rw [e, ss _ _ hD] at nZ
          cases nZ
        · have := hLs Z z
          cases e : H Z with
          | none => exact this e
          | some o => rw [ss _ _ (s06 _ _ e)] at nZ; cases nZ
    refine ⟨ys, sAll _ _ hD, ?_, sameMut (Same.trans sm sAll) nD, ys ++ [.ref W], upd_same, ?_⟩
    · have := hY.len
      rw [List.length_take] at this
      simp at this
      omega
    · rw [ej]
      exact (waysMut (List.mem_cons_self ..) (sAll _ _ hD) (waysS sAll hY)).app (.cons (new.mut (List.mem_cons_self ..) (sAll _ _ hD)) .nil)
  · obtain ⟨sm, ys, hD, hY⟩ := w
    exact q D ys H6 (Same.free s0T nD) (Same.trans s0T sm) hD hY

end

end LW

namespace LW
open PySem PySem.Spec PyProof.Rows L2
local macro_rules | `(tactic| walk_at "go1") => `(tactic| first
  | refine ⟨_, rfl, ?_⟩
  | refine ⟨_, _, rfl, rfl, ?_⟩
  | refine ⟨show (0 : Int) < _ from by omega, ?_⟩
  | refine ⟨show CMul _ _ from by first | exact .inl ⟨by omega, by omega⟩ | exact .inr ⟨by omega, by omega⟩, ?_⟩
  | refine ⟨show CDiv _ _ from ⟨by omega, by omega⟩, ?_⟩)
local macro_rules | `(tactic| walk_at "go") => `(tactic| repeat walk_at "go1")

section
variable {P : Program} {w : World} {K : PySem.W.Frag} {mg : Str → Option Value} {base : Heap}

theorem catL {H : Hp} {σ : L2.St} {Q : VK} {a b : Addr} {xs ys : List V} (ha : H a = some (.lst xs)) (hb : H b = some (.lst ys)) (hl : xs.length + ys.length ≤ 100000) (q : ∀ c, H c = none → Q (.ref c) (upd H c (.lst (xs ++ ys)))) : ∃ a' b' xs' ys', V.ref a = .ref a' ∧ V.ref b = .ref b' ∧ H a' = some (.lst xs') ∧ H b' = some (.lst ys') ∧ xs'.length + ys'.length ≤ sizeLine ∧ ∀ c, H c = none → Q (.ref c) (upd H c (.lst (xs' ++ ys'))) :=
  ⟨a, b, xs, ys, rfl, rfl, ha, hb, Nat.le_trans hl (by decide), q⟩
abbrev s__further : Stmt := topS 35
theorem sc__further : FnScope ["program", "way", "truths", "place", "many", "boxes", "words", "row", "box"] ["program", "way"] (defScope s__further) := ⟨rfl, rfl, rfl, by decide +kernel, rfl, by decide +kernel, by decide +kernel⟩

def spFurther (K : PySem.W.Frag) (C : Addr) : Sp := fun vs H Q _ => ∃ (x : Addr) (wv : V) (tops : List Int) (R : Rs) (p : Pos') (st : St') (Ls : List Addr), vs = [.ref x, wv] ∧ PgIn K H C x tops R ∧ At R p.ah p.i p.rs p.fr ∧ p.rs.isNil = false ∧ WayIn K Ls H wv (some p, st) ∧ GoodSt tops.length 1 st ∧ (∀ L ∈ Ls, H L ≠ none) ∧
  ∀ (l : Addr) (us : List V) (H' : Hp), H l = none → Same H H' → H' l = some (.lst us) → A2 (WayIn K (l :: Ls) H') us (further p st) → Q (.ref l) H'
theorem ok__further {f C : Addr} {fd : FuncData} {k : Nat} (F : Fun K "_further" "_further" s__further f fd) (B : Bl mg) (qcl : Cls K C) (q_row : CalM P w K mg base k C "row" (spRowAt K C)) (c_put_in : C8.Cal P w K mg base k "put_in" (spPut K) []) (c__both : C8.Cal P w K mg base k "_both" (spBoth K C) []) (c_behind : C8.Cal P w K mg base k "behind" (spBehind K C) []) : FnOk P w K mg base CX0 (k + 1) f fd ["program", "way"] (spFurther K C) := by
  refine F.ok sc__further (fun vs H Q E h => ?_) (fun cdv A outer s H vs Q E hr h => ?_)
  · obtain ⟨x, wv, tops, R, p, st, Ls, rfl, _⟩ := h
    rfl
  obtain ⟨x, wv, tops, R, ⟨ah, i, rs, fr⟩, st, Ls, rfl, hP, hA, n, hw, hg, hLs, q⟩ := h
  have hw0 := hw
  obtain ⟨t, tr, bl, wl, pv, bvs, wvs, rfl, h1, h2, ⟨pa, rfl, h3⟩, h4, h5, h6, h7, h8, h9⟩ := hw
  dsimp only at hA n h1 h2 h3 h5 h7 q
  refine ⟨_, (pss_cons (ps_asg (pv 1) (kTn (K := K) rfl rfl (pgs_cons (pg_name (i := 2) sc__further.nd rfl (.inl rfl)) (pgs_cons (pg_name (i := 3) sc__further.nd rfl (.inl rfl)) (pgs_cons (pg_name (i := 4) sc__further.nd rfl (.inl rfl)) (pgs_cons (pg_name (i := 5) sc__further.nd rfl (.inl rfl)) (pgs_cons (pg_name (i := 6) sc__further.nd rfl (.inl rfl)) pgs_nil)))))))
    (pss_cons (ps_set (i := 7) sc__further.nd rfl (.inl rfl) (pM q_row qcl hr (by omega) (pv 0) (pa_cons (pv 3) pa_nil)))
    (pss_cons (ps_if (pt_cmpR op_eq (pe_ix (kIxT (K := K) rfl) (pv 7) pe_int (fun _ _ => rfl)) pe_str (nomark _))
      (pss_one (ps_ret (pe_lst pa_nil)))
      pss_nil)
    (pss_cons (ps_if (pt_cmpR op_eq (pe_ix (kIxT (K := K) rfl) (pv 7) pe_int (fun _ _ => rfl)) pe_str (nomark _))
      (pss_one (ps_ret (C8.pe_c c__both hr (Nat.le_refl _) (by rfl) (pa_cons (pv 0) (pa_cons (pv 1) pa_nil)))))
      pss_nil)
    (pss_cons (ps_if (pt_cmpR op_eq (pe_ix (kIxT (K := K) rfl) (pv 7) pe_int (fun _ _ => rfl)) pe_str (nomark _))
      (pss_cons (ps_set (i := 8) sc__further.nd rfl (.inl rfl) (pe_ix (kIxT (K := K) rfl) (pv 7) pe_int (fun _ _ => rfl)))
      (pss_one (ps_set (i := 5) sc__further.nd rfl (.inl rfl) (pe_op op_cat (pe_op op_cat (pe_slice (kSlL (K := K) rfl) (pv 5) po_none (po_some (pv 8))) (pe_lst (pa_cons (C8.pe_c c_put_in hr (Nat.le_refl _) (by rfl) (pa_cons (pe_ix (kIxT (K := K) rfl) (pv 7) pe_int (fun _ _ => rfl)) (pa_cons (pv 5) pa_nil))) pa_nil))) (pe_slice (kSlL (K := K) rfl) (pv 5) (po_some (pe_op op_add (pv 8) pe_int)) po_none)))))
      (pss_one (ps_set (i := 6) sc__further.nd rfl (.inl rfl) (pe_op op_cat (pv 6) (pe_lst (pa_cons (C8.pe_c c_put_in hr (Nat.le_refl _) (by rfl) (pa_cons (pe_ix (kIxT (K := K) rfl) (pv 7) pe_int (fun _ _ => rfl)) (pa_cons (pv 5) pa_nil))) pa_nil))))))
    (pss_one (ps_ret (pe_lst (pa_cons (pe_tup (pa_cons (pv 2) (pa_cons (C8.pe_c c_behind hr (Nat.le_refl _) (by rfl) (pa_cons (pv 0) (pa_cons (pv 3) pa_nil))) (pa_cons (pe_op op_add (pv 4) pe_int) (pa_cons (pv 5) (pa_cons (pv 6) pa_nil)))))) pa_nil))))))))), ?_⟩
  obtain ⟨dx, tt, aa, hx⟩ := hP.obj
  obtain ⟨hRW, hTW, _, _⟩ := pgT hP
  have hW := hA.w hRW
  have szl : (100000 : Nat) < sizeLine := by decide
  have lwv : wvs.length = st.words.length := h7.len
  have lbv : bvs.length = st.boxes.length := h5.len
  refine ⟨_, rfl, _, _, rfl, h1, rfl, _, _, rfl, _, _, rfl, _, _, rfl, _, _, rfl, _, _, rfl, rfl, ?_⟩
  refine ⟨_, rfl, x, dx, _, rfl, hx, lkRow, _, rfl, rowSp (E := C8.E0) hP hA n h3 fun H1 v s1 hv => ?_⟩
  -- what the row is
  have fin : ∀ {H4 : Hp} {bl2 wl2 : Addr} {bvs2 wvs2 : List V} {st2 : St'} (y7 y8 : Option V), Same H H4 → st2.truths = st.truths → st2.many = st.many + 1 → H4 bl2 = some (.lst bvs2) → A2 (SumIn K H4) bvs2 st2.boxes → H4 wl2 = some (.lst wvs2) → A2 (SumIn K H4) wvs2 st2.words → bl2 ∉ Ls → wl2 ∉ Ls → further ⟨ah, i, rs, fr⟩ st = [(norm fr rs.tl ah (i + 1), st2)] →
      tRet (tLst (tCons (tTup (tCons (tVar 2) (tCons (tCall (spBehind K C) [] C8.E0 (tCons (tVar 0) (tCons (tVar 3) tNil))) (tCons (tOp (rI0 fun i j => .int (i + j)) (tVar 4) (tC (.int 1))) (tCons (tVar 5) (tCons (tVar 6) tNil)))))) tNil)) { nx := fun x H' => Q .non H', rt := Q } [some (.ref x), some (.ref t), some (.ref tr), some (.ref pa), some (.int (st.many : Int)), some (.ref bl2), some (.ref wl2), y7, y8] H4 := by
    intro H4 bl2 wl2 bvs2 wvs2 st2 y7 y8 s4 et em g4 g5 g6 g7 g8 g9 ef
    refine ⟨_, rfl, _, rfl, _, rfl, x, pa, tops, R, ah, i, rs, fr, rfl, hP.same s4, hA, n, tupS s4 h3, fun H5 pv5 s5 hpv => ?_⟩
    refine ⟨_, rfl, _, _, rfl, rfl, _, rfl, _, rfl, by show 5 ≤ sizeLine; decide, fun W nW => ⟨by show 1 ≤ sizeLine; decide, fun l nl => ?_⟩⟩
    have sW := sameNew (o := .tup [.ref tr, pv5, .int ((st.many : Int) + 1), .ref bl2, .ref wl2]) nW
    have sl := sameNew (o := .lst [.ref W]) nl
    have s5l := Same.trans s5 (Same.trans sW sl)
    have out : ∀ {b : Addr} {zs : List V}, H4 b = some (.lst zs) → b ∉ Ls → b ∉ l :: Ls := fun {b zs} hb hn z => by
      rcases List.mem_cons.mp z with e | z
      · have := Same.trans s5 sW _ _ hb
        rw [e, nl] at this
        cases this
      · exact hn z
    refine q l [.ref W] _ (Same.free (Same.trans s4 (Same.trans s5 sW)) nl) (Same.trans s4 s5l) upd_same ?_
    rw [ef]
    refine .cons ⟨W, tr, bl2, wl2, pv5, bvs2, wvs2, rfl, ?_, ?_, hpv.same (Same.trans sW sl), s5l _ _ g4, sumsS (tsOf s5l) g5, s5l _ _ g6, sumsS (tsOf s5l) g7, out g4 g8, out g6 g9⟩ .nil
    · have e : ((st2.many : Nat) : Int) = (st.many : Int) + 1 := by rw [em]; omega
      rw [e]
      exact tupS sl (.of upd_same)
    · rw [et]
      exact tupS (Same.trans s4 s5l) h2
  cases rs with
  | nil => cases n
  | loop w ws b t2 =>
    cases hv with
    | @tup ra rx _ hR hRA =>
    cases hRA with
    | cons k0 kA =>
    cases k0
    refine ⟨_, rfl, _, _, _, _, rfl, rfl, hR, atI_nat (j := 0) rfl, rfl, _, rfl, ?_⟩
    rw [decide_eq_true (strEq.mpr rfl)]
    refine iteT ⟨by show 0 ≤ sizeLine; decide, fun l nl => ?_⟩
    exact q l [] _ (Same.free s1 nl) (Same.trans s1 (sameNew nl)) upd_same .nil
  | ite w a b t2 =>
    cases hv with
    | @tup ra rx _ hR hRA =>
    cases hRA with
    | cons k0 kA =>
    cases k0
    refine ⟨_, rfl, _, _, _, _, rfl, rfl, hR, atI_nat (j := 0) rfl, rfl, _, rfl, ?_⟩
    rw [decide_eq_false (fun c => absurd (strEq.mp c) (by decide +kernel))]
    refine iteF ?_
    refine ⟨_, rfl, _, _, _, _, rfl, rfl, hR, atI_nat (j := 0) rfl, rfl, _, rfl, ?_⟩
    rw [decide_eq_true (strEq.mpr rfl)]
    refine iteT ⟨_, rfl, _, rfl, x, .ref t, tops, R, ⟨ah, i, _, fr⟩, st, Ls, rfl, hP.same s1, hA, .inl ⟨_, _, _, _, rfl⟩, hw0.same s1, hg, fun L hL z => ?_, fun l us H' nl s' hl hu => q l us H' (Same.free s1 nl) (Same.trans s1 s') hl hu⟩
    cases e : H L with
    | none => exact hLs L hL e
    | some o => rw [s1 _ _ e] at z; cases z
  | say w t2 =>
    cases hv with
    | @tup ra rx _ hR hRA =>
    cases hRA with
    | cons k0 kA =>
    cases k0
    cases kA with
    | cons k1 kA =>
    obtain ⟨g1, g2, g3, g4, g5, g6⟩ := hg
    refine ⟨_, rfl, _, _, _, _, rfl, rfl, hR, atI_nat (j := 0) rfl, rfl, _, rfl, ?_⟩
    rw [decide_eq_false (fun c => absurd (strEq.mp c) (by decide +kernel))]
    refine iteF ?_
    refine ⟨_, rfl, _, _, _, _, rfl, rfl, hR, atI_nat (j := 0) rfl, rfl, _, rfl, ?_⟩
    rw [decide_eq_false (fun c => absurd (strEq.mp c) (by decide +kernel))]
    refine iteF ?_
    refine ⟨_, rfl, _, _, _, _, rfl, rfl, hR, atI_nat (j := 0) rfl, rfl, _, rfl, ?_⟩
    rw [decide_eq_false (fun c => absurd (strEq.mp c) (by decide +kernel))]
    refine iteF ?_
    refine ⟨_, rfl, _, rfl, _, _, _, _, rfl, rfl, hR, atI_nat (j := 1) rfl, _, rfl, putUse (E := C8.E0) (sumDin k1) (s1 _ _ h4) (sumsS (tsOf s1) h5) g2 hTW.1 hTW.2.1 g3 (by omega) (good3 (sumW_wd hW.1) (by omega)) fun H2 v2 s2 hv2 => ?_⟩
    have s02 := Same.trans s1 s2
    refine ⟨by show 1 ≤ sizeLine; decide, fun Y nY => ⟨wl, Y, _, _, rfl, rfl, sameNew nY _ _ (s02 _ _ h6), upd_same, by rw [List.length_singleton]; omega, fun Z nZ => ?_⟩⟩
    have sY := sameNew (o := .lst [v2]) nY
    have sZ := sameNew (o := .lst (wvs ++ [v2])) nZ
    have s0Z := Same.trans s02 (Same.trans sY sZ)
    refine fin (st2 := st.say w) _ _ s0Z rfl rfl (s0Z _ _ h4) (sumsS (tsOf s0Z) h5) upd_same ((sumsS (tsOf s0Z) h7).app (.cons (SumIn.mono (Same.trans sY sZ) hv2) .nil)) h8 (fun z => ?_) rfl
    have := hLs Z z
    cases e : H Z with
    | none => exact this e
    | some o => rw [sY _ _ (s02 _ _ e)] at nZ; cases nZ
  | put b s t2 =>
    cases hv with
    | @tup ra rx _ hR hRA =>
    cases hRA with
    | cons k0 kA =>
    cases k0
    cases kA with
    | cons k1 kA =>
    cases k1
    cases kA with
    | cons k2 kA =>
    obtain ⟨g1, g2, g3, g4, g5, g6⟩ := hg
    have hb : b < st.boxes.length := by rw [g2]; exact hW.1
    have ht3 := hTW.2.1
    refine ⟨_, rfl, _, _, _, _, rfl, rfl, hR, atI_nat (j := 0) rfl, rfl, _, rfl, ?_⟩
    rw [decide_eq_false (fun c => absurd (strEq.mp c) (by decide +kernel))]
    refine iteF ?_
    refine ⟨_, rfl, _, _, _, _, rfl, rfl, hR, atI_nat (j := 0) rfl, rfl, _, rfl, ?_⟩
    rw [decide_eq_false (fun c => absurd (strEq.mp c) (by decide +kernel))]
    refine iteF ?_
    refine ⟨_, rfl, _, _, _, _, rfl, rfl, hR, atI_nat (j := 0) rfl, rfl, _, rfl, ?_⟩
    rw [decide_eq_true (strEq.mpr rfl)]
    refine iteT ?_
    refine ⟨_, rfl, _, _, _, _, rfl, rfl, hR, atI_nat (j := 1) rfl, ?_⟩
    refine ⟨_, rfl, _, rfl, _, rfl, bl, bvs, rfl, .of (s1 _ _ h4), fun pA nA => ?_⟩
    have sA := sameNew (o := .lst (cutV bvs none (some (b : Int)))) nA
    have s0A := Same.trans s1 sA
    refine ⟨_, rfl, _, _, _, _, rfl, rfl, tupS sA hR, atI_nat (j := 2) rfl, _, rfl, putUse (E := C8.E0) (sumDin (dinSame sA k2)) (s0A _ _ h4) (sumsS (tsOf s0A) h5) g2 hTW.1 hTW.2.1 g3 (by omega) (good3 (sumW_wd hW.2.1) (by omega)) fun H3 v3 s3 hv3 => ?_⟩
    have s03 := Same.trans s0A s3
    refine ⟨by show 1 ≤ sizeLine; decide, fun Y nY => ⟨pA, Y, _, _, rfl, rfl, sameNew nY _ _ (s3 _ _ upd_same), upd_same, by have := cutV_length bvs none (some (b : Int)); rw [List.length_singleton]; omega, fun Z nZ => ?_⟩⟩
    have sY := sameNew (o := .lst [v3]) nY
    have sZ := sameNew (o := .lst (cutV bvs none (some (b : Int)) ++ [v3])) nZ
    have s3Z := Same.trans sY sZ
    have s0Z := Same.trans s03 s3Z
    refine ⟨_, rfl, _, rfl, _, _, rfl, rfl, _, rfl, bl, bvs, rfl, .of (s0Z _ _ h4), fun pB nB => ?_⟩
    have sB := sameNew (o := .lst (cutV bvs (some ((b : Int) + 1)) none)) nB
    refine ⟨Z, pB, _, _, rfl, rfl, sB _ _ upd_same, upd_same, by have h1 := cutV_length bvs none (some (b : Int)); have h2 := cutV_length bvs (some ((b : Int) + 1)) none; rw [List.length_append, List.length_singleton]; omega, fun W nW => ?_⟩
    have sW := sameNew (o := .lst (cutV bvs none (some (b : Int)) ++ [v3] ++ cutV bvs (some ((b : Int) + 1)) none)) nW
    have s3W := Same.trans s3Z (Same.trans sB sW)
    have s0W := Same.trans s03 s3W
    have ec : cutV bvs none (some (b : Int)) ++ [v3] ++ cutV bvs (some ((b : Int) + 1)) none = bvs.set b v3 := by
      rw [cutTake, show (b : Int) + 1 = ((b + 1 : Nat) : Int) by omega, cutDrop, setAt (by omega)]
    refine fin (st2 := st.put b s) _ _ s0W rfl rfl upd_same ?_ (s0W _ _ h6) (sumsS (tsOf s0W) h7) (fun z => ?_) h9 rfl
    · have z := (sumsS (tsOf s0W) h5).set (j := b) (SumIn.mono s3W hv3)
      exact (show ∀ {S : V → Sm → Prop} {zs : List V}, zs = bvs.set b v3 → A2 S (bvs.set b v3) (st.boxes.set b (pIn s st.boxes)) → A2 S zs (st.put b s).boxes from fun e h => by rw [e]; exact h) ec z
    · have := hLs W z
      cases e : H W with
      | none => exact this e
      | some o => rw [Same.trans s0Z sB _ _ e] at nW; cases nW

end

end LW

namespace LW
open PySem PySem.Spec PyProof.Rows L2
local macro_rules | `(tactic| walk_at "go1") => `(tactic| first
  | refine ⟨_, rfl, ?_⟩
  | refine ⟨_, _, rfl, rfl, ?_⟩
  | refine ⟨show (0 : Int) < _ from by omega, ?_⟩
  | refine ⟨show CMul _ _ from by first | exact .inl ⟨by omega, by omega⟩ | exact .inr ⟨by omega, by omega⟩, ?_⟩
  | refine ⟨show CDiv _ _ from ⟨by omega, by omega⟩, ?_⟩)
local macro_rules | `(tactic| walk_at "go") => `(tactic| repeat walk_at "go1")

section
variable {P : Program} {w : World} {K : PySem.W.Frag} {mg : Str → Option Value} {base : Heap}

def boxes0 (n : Nat) : List Sm := (List.range n).map fun b => (unitN 1 b n, 0)
def startSt (n : Nat) (ws : List Sm) : St' := ⟨[], 0, boxes0 n, ws⟩
def keptOf : Rs → List Sm
  | .loop _ ws _ _ => ws
  | _ => []
theorem startGood {n : Nat} {ws : List Sm} {l : Nat} (n3 : n ≤ 3) (hl : l ≤ 14) (hw : ∀ s ∈ ws, SumW n s) (l3 : ws.length ≤ 3) : GoodSt n l (startSt n ws) := by
  refine ⟨by simp only [startSt]; omega, by simp [startSt, boxes0], fun b hb => ?_, fun b hb => ?_, by simp only [startSt]; omega, by simp [startSt]⟩
  · obtain ⟨j, _, rfl⟩ := List.mem_map.mp hb
    exact good3 ⟨unit_len .., wdSm (by omega) (by omega), unit_wd (by omega)⟩ (by simp only [startSt]; omega)
  · exact good3 (sumW_wd (hw b hb)) (by simp only [startSt]; omega)
/-- with which ways it begins: at the program's beginning, or at a loop -/
def begins (n : Nat) (R : Rs) : Option Pos' → List (Option Pos' × St')
  | none => [(norm .top R [] 0, startSt n [])]
  | some p => [(p.go false, (startSt n (keptOf p.rs)).turn (wordOf p.rs) false), (p.go true, (startSt n (keptOf p.rs)).turn (wordOf p.rs) true)]
def begPlace : Option Pos' → List Nat
  | none => []
  | some p => p.ah ++ [p.i]
def BegOk (R : Rs) (o : Option Pos') : Prop := ∀ p, o = some p → At R p.ah p.i p.rs p.fr ∧ ∃ w ws b t, p.rs = .loop w ws b t
theorem dpPlace {H : Hp} {a : Addr} {p : List Nat} (h : SqT K H a (nats p)) : Dp K H (.ref a) (dPl p) := .tup h (dpNats _)
theorem eqvNats (p : List Nat) : PyData.eqv (dPl p) (.tuple []) = decide (p = []) := by
  cases p with
  | nil => simp [dPl, PyData.eqv, PyData.eqvAll]
  | cons n r => simp [dPl, PyData.eqv, PyData.eqvAll]
theorem A2.ofAt {α β : Type} {S : α → β → Prop} : ∀ {a : List α} {b : List β}, a.length = b.length → (∀ (j : Nat) x y, a[j]? = some x → b[j]? = some y → S x y) → A2 S a b
  | [], [], _, _ => .nil
  | x :: r, y :: t, hl, h => .cons (h 0 x y rfl rfl) (A2.ofAt (by simpa using hl) fun j u v e1 e2 => h (j + 1) u v (by simpa using e1) (by simpa using e2))
  | [], _ :: _, hl, _ => by simp at hl
  | _ :: _, [], hl, _ => by simp at hl
abbrev s__beginnings : Stmt := topS 34
theorem sc__beginnings : FnScope ["program", "start", "many", "boxes", "box"] ["program", "start"] (defScope s__beginnings) := ⟨rfl, rfl, rfl, by decide +kernel, rfl, by decide +kernel, by decide +kernel⟩

def spBegs (K : PySem.W.Frag) (C : Addr) : Sp := fun vs H Q _ => ∃ (x sa : Addr) (tops : List Int) (R : Rs) (o : Option Pos') (Ls : List Addr), vs = [.ref x, .ref sa] ∧ PgIn K H C x tops R ∧ BegOk R o ∧ SqT K H sa (nats (begPlace o)) ∧ (∀ L ∈ Ls, H L ≠ none) ∧
  ∀ (l : Addr) (us : List V) (H' : Hp), H l = none → Same H H' → H' l = some (.lst us) → A2 (WayIn K (l :: Ls) H') us (begins tops.length R o) → Q (.ref l) H'
theorem ok__beginnings {f C : Addr} {fd : FuncData} {k : Nat} (F : Fun K "_beginnings" "_beginnings" s__beginnings f fd) (B : Bl mg) (qcl : Cls K C) (q_row : CalM P w K mg base (k + 1) C "row" (spRowAt K C)) (q_tops : CalP P w K mg base k C "tops" (spTopsP K C)) (c__of_one_box : C8.Cal P w K mg base (k + 1) "_of_one_box" (spOne K) []) (c_beginning : C8.Cal P w K mg base (k + 1) "beginning" (spBegin K C) []) (c__both : C8.Cal P w K mg base (k + 1) "_both" (spBoth K C) []) : FnOk P w K mg base CX0 (k + 2) f fd ["program", "start"] (spBegs K C) := by
  refine F.ok sc__beginnings (fun vs H Q E h => ?_) (fun cdv A outer s H vs Q E hr h => ?_)
  · obtain ⟨x, sa, tops, R, o, Ls, rfl, _⟩ := h
    rfl
  obtain ⟨x, sa, tops, R, o, Ls, rfl, hP, hO, hsa, hLs, q⟩ := h
  refine ⟨_, (pss_cons (ps_set (i := 2) sc__beginnings.nd rfl (.inr rfl) (pe_callB (kLen (K := K) rfl) (by rfl) B.len PySem.boot_len (pa_cons (pP q_tops qcl hr (by omega) (pv 0)) pa_nil)))
    (pss_cons (ps_setLc (i := 3) (own := [("box", 4)]) rfl sc__beginnings.nd rfl rfl (sw_true rfl rfl rfl (by decide +kernel)) (pi_range1 (by rfl) B.range (pa_cons (pv 2) pa_nil)) (blkOk_by (own := [("box", 4)]) (N := ["program", "start", "many", "boxes", "box"]) (sc := defScope s__beginnings) (by decide +kernel)) (fun _ _ _ _ _ => (pgN (i := 4) sc__beginnings.nd rfl (.inl rfl) (.inr rfl))) (fun _ _ _ _ _ => pts_nil) (fun _ _ _ _ _ => (pe_tup (pa_cons (C8.pe_c c__of_one_box hr (Nat.le_refl _) (by rfl) (pa_cons pe_int (pa_cons (pv 4) (pa_cons (pv 2) pa_nil)))) (pa_cons pe_int pa_nil)))))
    (pss_cons (ps_if (pt_cmpR (kEqD (K := K) rfl hr.units) (pv 1) (pe_tup pa_nil) (nomark _))
      (pss_one (ps_ret (pe_lst (pa_cons (pe_tup (pa_cons (pe_tup pa_nil) (pa_cons (C8.pe_c c_beginning hr (Nat.le_refl _) (by rfl) (pa_cons (pv 0) pa_nil)) (pa_cons pe_int (pa_cons (pv 3) (pa_cons (pe_lst pa_nil) pa_nil)))))) pa_nil))))
      pss_nil)
    (pss_one (ps_ret (C8.pe_c c__both hr (Nat.le_refl _) (by rfl) (pa_cons (pv 0) (pa_cons (pe_tup (pa_cons (pe_tup pa_nil) (pa_cons (pv 1) (pa_cons pe_int (pa_cons (pv 3) (pa_cons (pe_callTy (kList (K := K) rfl) (by rfl) B.list (by decide +kernel) (pa_cons (pe_ix (kIxT (K := K) rfl) (pM q_row qcl hr (by omega) (pv 0) (pa_cons (pv 1) pa_nil)) pe_int (fun _ _ => rfl)) pa_nil)) pa_nil)))))) pa_nil)))))))), ?_⟩
  obtain ⟨dx, tt, aa, hx⟩ := hP.obj
  obtain ⟨hRW, hTW, hN, hD⟩ := pgT hP
  obtain ⟨rv, hpr⟩ := hP.pr
  have ht3 := hTW.2.1
  refine ⟨_, rfl, x, dx, _, rfl, hx, x, tops, rv, rfl, hpr, fun tl H1 ntl s1 htl => ?_⟩
  refine ⟨_, _, rfl, .inl (.of htl), ?_⟩
  rw [List.length_map]
  -- the boxes
  refine ⟨_, rfl, _, rfl, by omega, by omega, fun D nD => ?_⟩
  have nD0 : H D = none := Same.free s1 nD
  refine lc_it walk_range (Made H1 D (fun j y H' => SumIn K H' y (unitN 1 j tops.length, 0))) (made0 nD) (fun _ _ _ _ => trivial) (fun j y H2 H3 hj p z => ?_) (fun H2 p => ?_)
  · obtain ⟨rfl, rfl⟩ := z
    refine ⟨rfl, ?_⟩
    refine lcYes ?_
    have hj3 : j < tops.length := by simpa using hj
    refine ⟨_, rfl, _, rfl, 1, j, tops.length, by simp, by omega, fun r H4 s4 hr => ⟨by show 2 ≤ sizeLine; decide, fun U nU => ?_⟩⟩
    exact p.push nD (fun _ _ _ _ e h => tsSum e h) (by omega) (Same.trans s4 (sameNew nU)) ⟨U, r, rfl, .of upd_same, tupS (sameNew nU) hr⟩
  obtain ⟨ys, lys, eD, s2, hys⟩ := p
  have s02 := Same.trans s1 s2
  have lt : ((tops.length : Nat) : Int).toNat = tops.length := by omega
  rw [lt] at lys
  have hB : A2 (SumIn K H2) ys (boxes0 tops.length) := A2.ofAt (by simp [boxes0, lys]) fun j y z e1 e2 => by
    have hj : j < tops.length := by
      have := (List.getElem?_eq_some_iff.mp e1).1
      omega
    have ez : z = (unitN 1 j tops.length, 0) := by
      simp [boxes0, hj] at e2
      exact e2.symm
    rw [ez]
    exact hys j y e1
  -- start == ()
  refine ⟨_, rfl, by show 0 ≤ sizeLine; decide, fun T nT => ?_⟩
  have sT := sameNew (o := .tup []) nT
  have s0T := Same.trans s02 sT
  refine ⟨dPl (begPlace o), .tuple [], dpPlace (tupS s0T hsa), .tup (.of upd_same) .nil, (lyPl _).shaped (by decide), (lyTup (lyNil 1)).shaped (by decide), _, rfl, ?_⟩
  rw [eqvNats]
  have hBT := sumsS (tsOf sT) hB
  have eDT := sT _ _ eD
  have hLD : ¬ D ∈ Ls := fun z => hLs D z nD0
  generalize upd H2 T (.tup []) = H5 at *
  cases o with
  | none =>
    rw [show begPlace (none : Option Pos') = [] from rfl, decide_eq_true rfl]
    refine iteT ⟨by show 0 ≤ sizeLine; decide, fun T2 nT2 => ?_⟩
    have sT2 := sameNew (o := .tup []) nT2
    have s0b := Same.trans s0T sT2
    refine ⟨_, rfl, x, tops, R, rfl, hP.same s0b, fun H6 pv s6 hpv => ?_⟩
    refine ⟨_, rfl, by show 0 ≤ sizeLine; decide, fun wl nwl => ⟨by show 5 ≤ sizeLine; decide, fun W nW => ⟨by show 1 ≤ sizeLine; decide, fun l nl => ?_⟩⟩⟩
    have swl := sameNew (o := .lst []) nwl
    have sW := sameNew (o := .tup [.ref T2, pv, .int 0, .ref D, .ref wl]) nW
    have sl := sameNew (o := .lst [.ref W]) nl
    have s6l := Same.trans swl (Same.trans sW sl)
    have s5l := Same.trans sT2 (Same.trans s6 s6l)
    have s06 := Same.trans s0b s6
    refine q l [.ref W] _ (Same.free (Same.trans s06 (Same.trans swl sW)) nl) (Same.trans s06 s6l) upd_same ?_
    refine .cons ⟨W, T2, D, wl, pv, ys, [], rfl, tupS sl (.of upd_same), tupS (Same.trans s6 s6l) (.of upd_same), hpv.same s6l, s5l _ _ eDT, sumsS (tsOf s5l) hBT, Same.trans sW sl _ _ upd_same, .nil, fun z => ?_, fun z => ?_⟩ .nil
    · rcases List.mem_cons.mp z with e | z
      · have := Same.trans sT2 (Same.trans s6 (Same.trans swl sW)) _ _ eDT
        rw [← e, this] at nl
        cases nl
      · exact hLD z
    rcases List.mem_cons.mp z with e | z
    · have : upd H6 wl (.lst []) wl = some (.lst []) := upd_same
      have := sW _ _ this
      rw [← e, this] at nl
      cases nl
    have := hLs wl z
    cases e : H wl with
    | none => exact this e
    | some o => rw [s06 _ _ e] at nwl; cases nwl
  | some p =>
    obtain ⟨hA, w, ws, b, t, ep⟩ := hO p rfl
    have hWp := hA.w hRW
    rw [ep] at hWp
    have n : p.rs.isNil = false := by rw [ep]; rfl
    have np : begPlace (some p) ≠ [] := by simp [begPlace]
    rw [decide_eq_false np]
    refine iteF ?_
    refine ⟨_, rfl, by show 0 ≤ sizeLine; decide, fun T2 nT2 => ?_⟩
    have sT2 := sameNew (o := .tup []) nT2
    have s0b := Same.trans s0T sT2
    refine ⟨_, rfl, _, rfl, _, rfl, x, dx, _, rfl, s0b _ _ hx, lkRow, _, rfl, rowSp (E := C8.E0) (hP.same s0b) hA n (tupS s0b hsa) fun H6 v s6 hv => ?_⟩
    rw [ep] at hv
    cases hv with
    | @tup ra rx _ hR hRA =>
    cases hRA with
    | cons k0 kA =>
    cases k0
    cases kA with
    | cons k1 kA =>
    cases kA with
    | cons k2 kA =>
    cases k2 with
    | @tup wa wx _ hWT hWA =>
    have hWs := sumsDin hWA
    refine ⟨_, _, _, _, rfl, rfl, hR, atI_nat (j := 2) rfl, wa, wx, rfl, .inr hWT, fun wl nwl => ⟨by show 5 ≤ sizeLine; decide, fun W nW => ?_⟩⟩
    have swl := sameNew (o := .lst wx) nwl
    have sW := sameNew (o := .tup [.ref T2, .ref sa, .int 0, .ref D, .ref wl]) nW
    have s6W := Same.trans swl sW
    have s06 := Same.trans s0b s6
    have s0W := Same.trans s06 s6W
    have s5W := Same.trans sT2 (Same.trans s6 s6W)
    have hg : GoodSt tops.length 1 (startSt tops.length ws) := startGood ht3 (by omega) hWp.2.1 hWp.2.2.1
    have ek : keptOf p.rs = ws := by rw [ep]; rfl
    refine ⟨x, .ref W, tops, R, p, startSt tops.length ws, Ls, rfl, hP.same s0W, hA, .inr ⟨w, ws, b, t, ep⟩, ⟨W, T2, D, wl, .ref sa, ys, wx, rfl, .of upd_same, tupS (Same.trans s6 s6W) (.of upd_same), ⟨sa, rfl, tupS s0W hsa⟩, s5W _ _ eDT, sumsS (tsOf s5W) hBT, sW _ _ upd_same, sumsS (tsOf s6W) hWs, fun z => hLD z, fun z => ?_⟩, hg, fun L hL z => ?_, fun l us H7 nl s7 hl hu => ?_⟩
    · have := hLs wl z
      cases e : H wl with
      | none => exact this e
      | some o => rw [s06 _ _ e] at nwl; cases nwl
    · cases e : H L with
      | none => exact hLs L hL e
      | some o => rw [s0W _ _ e] at z; cases z
    · refine q l us H7 (Same.free s0W nl) (Same.trans s0W s7) hl ?_
      rw [begins, ek]
      exact hu

end

end LW

namespace LW
open PySem PySem.Spec PyProof.Rows L2
local macro_rules | `(tactic| walk_at "go1") => `(tactic| first
  | refine ⟨_, rfl, ?_⟩
  | refine ⟨_, _, rfl, rfl, ?_⟩
  | refine ⟨show (0 : Int) < _ from by omega, ?_⟩
  | refine ⟨show CMul _ _ from by first | exact .inl ⟨by omega, by omega⟩ | exact .inr ⟨by omega, by omega⟩, ?_⟩
  | refine ⟨show CDiv _ _ from ⟨by omega, by omega⟩, ?_⟩)
local macro_rules | `(tactic| walk_at "go") => `(tactic| repeat walk_at "go1")

section
variable {P : Program} {w : World} {K : PySem.W.Frag} {mg : Str → Option Value} {base : Heap}

/-- a way that stands at a row, good -/
def OkAt (n : Nat) (R : Rs) (o : Option Pos') (st : St') : Prop := ∀ p, o = some p → At R p.ah p.i p.rs p.fr ∧ p.rs.isNil = false ∧ GoodSt n (omx o) st
theorem okNorm {n : Nat} {R : Rs} {fr : Fr} {ah : List Nat} {i : Nat} {rs : Rs} {st : St'} (h : At R ah i rs fr) (g : GoodSt n (mx rs fr.mx) st) : OkAt n R (norm fr rs ah i) st := fun p e => by
  have := h.norm e
  refine ⟨this.1, this.2, ?_⟩
  rw [norm_mx]
  exact g
theorem ok_further {n : Nat} {R : Rs} {p : Pos'} {st : St'} (n3 : n ≤ 3) (hw : R.W n) (ha : At R p.ah p.i p.rs p.fr) (hn : p.rs.isNil = false) (g : GoodSt n (omx (some p)) st) : ∀ x ∈ further p st, OkAt n R x.1 x.2 := by
  obtain ⟨ah, i, rs, fr⟩ := p
  dsimp only at ha hn
  have hW := ha.w hw
  intro x hx
  cases rs with
  | nil => cases hn
  | put b s t =>
    rw [List.mem_singleton.mp hx]
    have g' : GoodSt n (mx t fr.mx + 1) st := g.less (by simp only [omx, mx]; omega)
    exact okNorm ha.put (g'.put n3 hW.2.1)
  | say w t =>
    rw [List.mem_singleton.mp hx]
    have g' : GoodSt n (mx t fr.mx + 1) st := g.less (by simp only [omx, mx]; omega)
    exact okNorm ha.say (g'.say n3 hW.1)
  | ite w a b t =>
    rcases List.mem_cons.mp hx with rfl | hx
    · have g' : GoodSt n (mx b (mx t fr.mx) + 1) st := g.less (by simp only [omx, mx]; omega)
      exact okNorm ha.ifB (g'.turn n3 hW.1)
    · rw [List.mem_singleton.mp hx]
      have g' : GoodSt n (mx a (mx t fr.mx) + 1) st := g.less (by simp only [omx, mx]; omega)
      exact okNorm ha.ifA (g'.turn n3 hW.1)
  | loop w ws b t => cases hx
theorem ok_begins {n : Nat} {R : Rs} {o : Option Pos'} (n3 : n ≤ 3) (hw : R.W n) (hn : R.num ≤ 12) (ho : BegOk R o) : ∀ x ∈ begins n R o, OkAt n R x.1 x.2 := by
  intro x hx
  have nm : ∀ {ah i rs fr}, At R ah i rs fr → mx rs fr.mx ≤ 12 := fun h => Nat.le_trans h.mx hn
  cases o with
  | none =>
    rw [List.mem_singleton.mp hx]
    exact okNorm .top (startGood n3 (by have := nm (At.top (R := R)); omega) (fun s hs => by cases hs) (by simp))
  | some p =>
    obtain ⟨hA, w, ws, b, t, ep⟩ := ho p rfl
    obtain ⟨ah, i, rs, fr⟩ := p
    dsimp only at ep hA
    subst ep
    have hW := hA.w hw
    have g : GoodSt n 14 (startSt n ws) := startGood n3 (by omega) hW.2.1 hW.2.2.1
    rcases List.mem_cons.mp hx with rfl | hx
    · have := nm hA.loop
      have g' : GoodSt n (mx t fr.mx + 1) (startSt n ws) := g.less (by omega)
      exact okNorm hA.loop (g'.turn n3 hW.1)
    · rw [List.mem_singleton.mp hx]
      have := nm hA.body
      have g' : GoodSt n (mx b 1 + 1) (startSt n ws) := g.less (by have : mx b 1 ≤ 12 := this; omega)
      exact okNorm hA.body (g'.turn n3 hW.1)
def msr (l : List (Option Pos' × St')) : Nat := (l.map fun x => 2 * owt x.1 + 1).sum
theorem msr_app (a b : List (Option Pos' × St')) : msr (a ++ b) = msr a + msr b := by simp [msr]
theorem msr_len (l : List (Option Pos' × St')) : l.length ≤ msr l := by
  induction l with
  | nil => exact Nat.le_refl _
  | cons x r ih => simp only [msr, List.map_cons, List.sum_cons, List.length_cons] at ih ⊢; omega
theorem msr_further {p : Pos'} {st : St'} (hn : p.rs.isNil = false) : msr (further p st) + 1 ≤ 2 * owt (some p) + 1 := by
  have h := wt_further p st hn
  have h2 : ∀ l : List (Option Pos' × St'), msr l = 2 * (l.map fun x => owt x.1).sum + l.length := by
    intro l
    induction l with
    | nil => rfl
    | cons x r ih => simp only [msr, List.map_cons, List.sum_cons, List.length_cons] at ih ⊢; omega
  have h3 : (further p st).length ≤ 2 := by
    obtain ⟨ah, i, rs, fr⟩ := p
    cases rs <;> simp [further]
  rw [h2]
  omega
theorem msr_begins {n : Nat} {R : Rs} {o : Option Pos'} (hn : R.num ≤ 12) (ho : BegOk R o) : msr (begins n R o) ≤ 20000 := by
  have p12 : 2 ^ R.num ≤ 2 ^ 12 := Nat.pow_le_pow_right (by decide) hn
  have w : ∀ {ah i rs fr}, At R ah i rs fr → wt rs fr.wt ≤ 4096 := fun h => by
    have := h.wt
    omega
  cases o with
  | none =>
    have := w (At.top (R := R))
    simp only [begins, msr, List.map_cons, List.map_nil, List.sum_cons, List.sum_nil, norm_wt]
    omega
  | some p =>
    obtain ⟨hA, w', ws, b, t, ep⟩ := ho p rfl
    obtain ⟨ah, i, rs, fr⟩ := p
    dsimp only at ep hA
    subst ep
    have h1 := w hA.loop
    have h2 := w hA.body
    simp only [begins, msr, List.map_cons, List.map_nil, List.sum_cons, List.sum_nil, Pos'.go, if_true, norm_wt, Bool.false_eq_true, if_false]
    omega
/-- the ways told: at a say or a loop -/
def IsArr (n : Nat) (R : Rs) (x : Pos' × St') : Prop := At R x.1.ah x.1.i x.1.rs x.1.fr ∧ ((∃ w t, x.1.rs = .say w t) ∨ ∃ w ws b t, x.1.rs = .loop w ws b t) ∧ GoodSt n 1 x.2
def arrAll (ps : List (Pos' × St')) : List Arr := ps.flatMap fun x => arrs x.1 x.2
def up1 (ps : List (Pos' × St')) : List (Option Pos' × St') := ps.map fun x => (some x.1, x.2)
abbrev s__ways : Stmt := topS 33
theorem sc__ways : FnScope ["program", "start", "found", "ahead", "way", "place"] ["program", "start"] (defScope s__ways) := ⟨rfl, rfl, rfl, by decide +kernel, rfl, by decide +kernel, by decide +kernel⟩

def spWays (K : PySem.W.Frag) (C : Addr) : Sp := fun vs H Q _ => ∃ (x sa : Addr) (tops : List Int) (R : Rs) (o : Option Pos') (Ls : List Addr), vs = [.ref x, .ref sa] ∧ PgIn K H C x tops R ∧ BegOk R o ∧ SqT K H sa (nats (begPlace o)) ∧ (∀ L ∈ Ls, H L ≠ none) ∧
  ∀ (F : Addr) (fv : List V) (ps : List (Pos' × St')) (H' : Hp), H F = none → Same H H' → H' F = some (.lst fv) → A2 (WayIn K (F :: Ls) H') fv (up1 ps) → (∀ x ∈ ps, IsArr tops.length R x) → arrAll ps = pend (begins tops.length R o) → ps.length ≤ 20000 → Q (.ref F) H'
theorem ok__ways {f C : Addr} {fd : FuncData} {k : Nat} (F : Fun K "_ways" "_ways" s__ways f fd) (B : Bl mg) (qcl : Cls K C) (q_row : CalM P w K mg base k C "row" (spRowAt K C)) (c__beginnings : C8.Cal P w K mg base k "_beginnings" (spBegs K C) []) (c__further : C8.Cal P w K mg base k "_further" (spFurther K C) []) : FnOk P w K mg base CX0 (k + 1) f fd ["program", "start"] (spWays K C) := by
  refine F.ok sc__ways (fun vs H Q E h => ?_) (fun cdv A outer s H vs Q E hr h => ?_)
  · obtain ⟨x, sa, tops, R, o, Ls, rfl, _⟩ := h
    rfl
  obtain ⟨x, sa, tops, R, o, Ls, rfl, hP, hO, hsa, hLs, q⟩ := h
  refine ⟨_, (pss_cons (ps_set (i := 2) sc__ways.nd rfl (.inl rfl) (pe_lst pa_nil))
    (pss_cons (ps_set (i := 3) sc__ways.nd rfl (.inl rfl) (C8.pe_c c__beginnings hr (Nat.le_refl _) (by rfl) (pa_cons (pv 0) (pa_cons (pv 1) pa_nil))))
    (pss_cons (ps_while PassesOwn.never (pt_truth (pv 3) (by intro _; rfl))
      (pss_cons (ps_set (i := 4) sc__ways.nd rfl (.inl rfl) (pe_bm0 PySem.F.plainAttrs_list PySem.F.slot_list_pop PySem.F.type_list_pop mt_pop (pv 3)))
      (pss_cons (ps_set (i := 5) sc__ways.nd rfl (.inl rfl) (pe_ix (kIxT (K := K) rfl) (pv 4) pe_int (fun _ _ => rfl)))
      (pss_one (ps_if (pt_cmpR op_notN (pv 5) pe_non (nomark _))
        (pss_cons (ps_if (pt_cmpR (kIn (K := K) rfl) (pe_ix (kIxT (K := K) rfl) (pM q_row qcl hr (by omega) (pv 0) (pa_cons (pv 5) pa_nil)) pe_int (fun _ _ => rfl)) (pe_tup (pa_cons pe_str (pa_cons pe_str pa_nil))) (by rfl))
          (pss_one (ps_expr (pe_bm PySem.F.plainAttrs_list PySem.F.slot_list_append PySem.F.type_list_append mt_append (pv 2) (pa_cons (pv 4) pa_nil))))
          pss_nil)
        (pss_one (ps_expr (pe_bm PySem.F.plainAttrs_list PySem.F.slot_list_extend PySem.F.type_list_extend mt_extend (pv 3) (pa_cons (C8.pe_c c__further hr (Nat.le_refl _) (by rfl) (pa_cons (pv 0) (pa_cons (pv 4) pa_nil))) pa_nil)))))
        pss_nil)))))
    (pss_one (ps_ret (pv 2)))))), ?_⟩
  obtain ⟨hRW, hTW, hN, hD⟩ := pgT hP
  have ht3 := hTW.2.1
  have szl : (100000 : Nat) < sizeLine := by decide
  refine ⟨by show 0 ≤ sizeLine; decide, fun Fa nF => ?_⟩
  have sF := sameNew (o := .lst []) nF
  have nFs : ∀ L ∈ Fa :: Ls, upd H Fa (.lst []) L ≠ none := fun L hL => by
    rcases List.mem_cons.mp hL with e | hL
    · rw [e, upd_same]; simp
    · intro z
      cases e : H L with
      | none => exact hLs L hL e
      | some o => rw [sF _ _ e] at z; cases z
  refine ⟨_, rfl, _, rfl, x, sa, tops, R, o, Fa :: Ls, rfl, hP.same sF, hO, tupS sF hsa, nFs, fun L us H1 nL s1 hL hu => ?_⟩
  have nLF : L ≠ Fa := fun e => by rw [e, upd_same] at nL; cases nL
  have nL0 : H L = none := Same.free sF nL
  have s01 := Same.trans sF s1
  have hF1 : H1 Fa = some (.lst []) := s1 _ _ upd_same
  have m20 := msr_begins (n := tops.length) hN hO
  refine ⟨fun m σ H' => ∃ (av fv : List V) (stk : List (Option Pos' × St')) (ps : List (Pos' × St')) (y4 y5 : Option V), σ = [some (.ref x), some (.ref sa), some (.ref Fa), some (.ref L), y4, y5] ∧ Same H H' ∧ H' L = some (.lst av) ∧ H' Fa = some (.lst fv) ∧ A2 (WayIn K (L :: Fa :: Ls) H') av stk ∧ A2 (WayIn K (L :: Fa :: Ls) H') fv (up1 ps) ∧
    (∀ y ∈ stk, OkAt tops.length R y.1 y.2) ∧ (∀ y ∈ ps, IsArr tops.length R y) ∧ arrAll ps ++ pend stk = pend (begins tops.length R o) ∧ msr stk = m ∧ ps.length + m ≤ 20000,
    ⟨_, us, [], _, [], none, none, rfl, s01, hL, hF1, hu, .nil, ok_begins ht3 hRW hN hO, (by intro y hy; cases hy), rfl, rfl, (by simpa using m20)⟩, ?_⟩
  clear hu hL s1
  rintro m σ H2 ⟨av, fv, stk, ps, y4, y5, rfl, sm, hL, hF, hA2, hF2, hok, hps, hsem, hm, hl⟩
  refine ⟨_, rfl, !av.isEmpty, .inl ⟨av, .of hL, rfl⟩, ?_⟩
  rcases List.eq_nil_or_concat av with rfl | ⟨ys, y, rfl⟩
  · cases hA2
    refine iteF ⟨_, rfl, ?_⟩
    refine q Fa fv ps H2 nF sm hF (A2.map (B' := _) (fun _ _ _ r => r.less fun a ha => .inr (List.mem_cons_of_mem _ ha)) (fun _ m => m) hF2) hps ?_ (by omega)
    simpa [pend] using hsem
  rw [List.concat_eq_append] at hL hA2
  obtain ⟨qs, ⟨o1, st⟩, rfl, hY, hy⟩ := a2Snoc hA2
  have ne : (!(ys.concat y).isEmpty) = true := by simp
  rw [ne]
  refine iteT ⟨_, fun σ' H' z => z, ?_⟩
  have hoy := hok (o1, st) (by simp)
  rw [msr_app] at hm
  have m1 : msr [(o1, st)] = 2 * owt o1 + 1 := by simp [msr]
  rw [pend_app] at hsem
  have p1 : pend [(o1, st)] = oways o1 st := by simp [pend]
  rw [p1] at hsem
  -- way = ahead.pop()
  refine ⟨_, rfl, .inl ⟨rfl, _, .of hL⟩, L, _, y, rfl, rfl, hL, by simp, ?_⟩
  rw [List.dropLast_concat]
  have iL : L ∈ (L :: Fa :: Ls) := List.mem_cons_self ..
  have sm3 : Same H (upd H2 L (.lst ys)) := sameMut sm nL0
  have hL3 : upd H2 L (.lst ys) L = some (.lst ys) := upd_same
  have hF3 : upd H2 L (.lst ys) Fa = some (.lst fv) := by rw [upd_ne (Ne.symm nLF)]; exact hF
  have hY3 := waysMut (ys := ys) iL hL hY
  have hf3 := waysMut (ys := ys) iL hL hF2
  have hy3 := hy.mut (ys := ys) iL hL
  generalize upd H2 L (.lst ys) = H3 at *
  clear hL hF hY hF2 hy sm hA2
  have hy3' := hy3
  obtain ⟨t, tr, bl, wl, pv, bvs, wvs, rfl, h1, h2, h3, h4, h5, h6, h7, h8, h9⟩ := hy3'
  refine ⟨_, rfl, _, _, _, _, rfl, rfl, h1, atI_nat (j := 1) rfl, ?_⟩
  refine ⟨_, rfl, rfl, _, rfl, ?_⟩
  cases o1 with
  | none =>
    have e : pv = .non := h3
    rw [e]
    refine iteF ⟨_, ?_, ys, fv, qs, ps, _, _, rfl, sm3, hL3, hF3, hY3, hf3, fun y hy => hok y (List.mem_append_left _ hy), hps, by simpa [oways] using hsem, rfl, ?_⟩
    · omega
    · omega
  | some p =>
    obtain ⟨pa, rfl, h3⟩ := h3
    obtain ⟨hAp, hnp, hgp⟩ := hoy p rfl
    refine iteT ?_
    have lys := hY3.len
    have lst := msr_len qs
    have lf := hf3.len
    have lfp : fv.length = ps.length := by rw [lf]; simp [up1]
    -- program.row(place)[0] in ('say', 'loop')
    obtain ⟨dx, tt, aa, hx⟩ := (hP.same sm3).obj
    refine ⟨_, rfl, x, dx, _, rfl, hx, lkRow, _, rfl, rowSp (E := C8.E0) (hP.same sm3) hAp hnp h3 fun H4 v s4 hv => ?_⟩
    have sm4 := Same.trans sm3 s4
    have hL4 := s4 _ _ hL3
    have hF4 := s4 _ _ hF3
    have hY4 := waysS s4 hY3
    have hf4 := waysS s4 hf3
    have hy4 := hy3.same s4
    obtain ⟨ra, rx, kd, b, rfl, hR, e0, fk, ek, eb⟩ : ∃ (ra : Addr) (rx : List V) (kd : Str) (b : Bool), v = .ref ra ∧ SqT K H4 ra rx ∧ rx[0]? = some (.str kd) ∧ flatV (.str kd) = true ∧ inV (.str kd) [.str "say", .str "loop"] = b ∧ ((b = true ∧ ((∃ w t, p.rs = .say w t) ∨ ∃ w ws b t, p.rs = .loop w ws b t)) ∨ (b = false ∧ arrs p st = [])) := by
      obtain ⟨ah, i, rs, fr⟩ := p
      cases rs with
      | nil => cases hnp
      | put b s t =>
        cases hv with
        | @tup ra rx _ hR hRA =>
        cases hRA with
        | cons k0 kA =>
        cases k0
        exact ⟨ra, _, "put", false, rfl, hR, rfl, by decide +kernel, by decide +kernel, .inr ⟨rfl, rfl⟩⟩
      | say w t =>
        cases hv with
        | @tup ra rx _ hR hRA =>
        cases hRA with
        | cons k0 kA =>
        cases k0
        exact ⟨ra, _, "say", true, rfl, hR, rfl, by decide +kernel, by decide +kernel, .inl ⟨rfl, .inl ⟨_, _, rfl⟩⟩⟩
      | ite w a b t =>
        cases hv with
        | @tup ra rx _ hR hRA =>
        cases hRA with
        | cons k0 kA =>
        cases k0
        exact ⟨ra, _, "if", false, rfl, hR, rfl, by decide +kernel, by decide +kernel, .inr ⟨rfl, rfl⟩⟩
      | loop w ws b t =>
        cases hv with
        | @tup ra rx _ hR hRA =>
        cases hRA with
        | cons k0 kA =>
        cases k0
        exact ⟨ra, _, "loop", true, rfl, hR, rfl, by decide +kernel, by decide +kernel, .inl ⟨rfl, .inr ⟨_, _, _, _, rfl⟩⟩⟩
    refine ⟨_, _, _, _, rfl, rfl, hR, atI_nat (j := 0) e0, ?_⟩
    refine ⟨by show 2 ≤ sizeLine; decide, fun T nT => ⟨T, _, rfl, .inr (.of upd_same), fk, by decide +kernel, ?_⟩⟩
    have sT := sameNew (o := .tup [.str "say", .str "loop"]) nT
    have sm5 := Same.trans sm4 sT
    have hL5 := sT _ _ hL4
    have hF5 := sT _ _ hF4
    have hY5 := waysS sT hY4
    have hf5 := waysS sT hf4
    have hy5 := hy4.same sT
    rw [if_neg Bool.false_ne_true, ek]
    generalize upd H4 T (.tup [.str "say", .str "loop"]) = H5 at *
    clear hL4 hF4 hY4 hf4 hy4 sm4 hL3 hF3 hY3 hf3 hy3
    have iF : Fa ∈ (L :: Fa :: Ls) := List.mem_cons_of_mem _ (List.mem_cons_self ..)
    have wf := ways_further p st hnp
    have mp : 1 ≤ omx (some p) := by
      obtain ⟨ah, i, rs, fr⟩ := p
      cases rs with
      | nil => cases hnp
      | _ => simp only [omx, mx]; omega
    have mf := msr_further (st := st) hnp
    refine ⟨_, rfl, ?_⟩
    refine ifB (fun c => ?_) (fun c => ?_)
    · obtain ⟨_, kind⟩ : b = true ∧ ((∃ w t, p.rs = .say w t) ∨ ∃ w ws b t, p.rs = .loop w ws b t) := eb.resolve_right fun z => by rw [c] at z; cases z.1
      refine ⟨_, rfl, .inl ⟨rfl, _, .of hF5⟩, _, rfl, Fa, fv, .ref t, rfl, rfl, hF5, by omega, ?_⟩
      have nF0 : H Fa = none := nF
      have sm6 : Same H (upd H5 Fa (.lst (fv ++ [.ref t]))) := sameMut sm5 nF0
      have hL6 : upd H5 Fa (.lst (fv ++ [.ref t])) L = some (.lst ys) := by rw [upd_ne nLF]; exact hL5
      have hF6 : upd H5 Fa (.lst (fv ++ [.ref t])) Fa = some (.lst (fv ++ [.ref t])) := upd_same
      have hY6 := waysMut (ys := fv ++ [.ref t]) iF hF5 hY5
      have hy6 := hy5.mut (ys := fv ++ [.ref t]) iF hF5
      have hf6 := waysMut (ys := fv ++ [.ref t]) iF hF5 hf5
      generalize upd H5 Fa (.lst (fv ++ [.ref t])) = H6 at *
      clear hL5 hF5 hY5 hf5 hy5 sm5
      have gf : A2 (WayIn K (L :: Fa :: Ls) H6) (fv ++ [.ref t]) (up1 (ps ++ [(p, st)])) := by
        rw [show up1 (ps ++ [(p, st)]) = up1 ps ++ [(some p, st)] by simp [up1]]
        exact hf6.app (.cons hy6 .nil)
      have ga : arrs p st = arrAll [(p, st)] := by simp [arrAll]
      have gp : ∀ y ∈ ps ++ [(p, st)], IsArr tops.length R y := fun y hy => by
        rcases List.mem_append.mp hy with hy | hy
        · exact hps y hy
        · rw [List.mem_singleton.mp hy]
          exact ⟨hAp, kind, hgp.less mp⟩
      have gs : arrAll (ps ++ [(p, st)]) ++ (pend (further p st) ++ pend qs) = pend (begins tops.length R o) := by
        rw [← hsem, wf, ga]
        simp [arrAll]
      have l1 : (ps ++ [(p, st)]).length = ps.length + 1 := by simp
      refine ⟨_, rfl, .inl ⟨rfl, _, .of hL6⟩, _, rfl, _, rfl, x, .ref t, tops, R, p, st, (L :: Fa :: Ls), rfl, hP.same sm6, hAp, hnp, hy6, hgp.less mp, ?_, fun l us H7 nl s7 hl hu => ?_⟩
      · intro a ha z
        rcases List.mem_cons.mp ha with e | ha
        · rw [e, hL6] at z; cases z
        rcases List.mem_cons.mp ha with e | ha
        · rw [e, hF6] at z; cases z
        cases e : H a with
        | none => exact hLs a ha e
        | some o => rw [sm6 _ _ e] at z; cases z
      have lus := hu.len
      have lF := msr_len (further p st)
      have sm7 := Same.trans sm6 s7
      have hL7 := s7 _ _ hL6
      have hF7 := s7 _ _ hF6
      refine ⟨L, l, ys, us, rfl, rfl, hL7, hl, by omega, ?_⟩
      have hu8 := waysMut (ys := ys ++ us) (List.mem_cons_of_mem l iL) hL7 hu
      have hY8 := waysMut (ys := ys ++ us) iL hL7 (waysS s7 hY6)
      have hf8 := waysMut (ys := ys ++ us) iL hL7 (waysS s7 gf)
      have hu9 : A2 (WayIn K (L :: Fa :: Ls) (upd H7 L (.lst (ys ++ us)))) us (further p st) := A2.map (B' := _) (fun _ _ _ r => r.less fun a ha => .inr (List.mem_cons_of_mem _ ha)) (fun _ m => m) hu8
      refine ⟨_, ?_, ys ++ us, fv ++ [.ref t], qs ++ further p st, ps ++ [(p, st)], _, _, rfl, sameMut sm7 nL0, upd_same, by rw [upd_ne (Ne.symm nLF)]; exact hF7, hY8.app hu9, hf8, fun y hy => ?_, gp, ?_, rfl, ?_⟩
      · rw [msr_app]; omega
      · rcases List.mem_append.mp hy with hy | hy
        · exact hok y (List.mem_append_left _ hy)
        · exact ok_further ht3 hRW hAp hnp hgp y hy
      · rw [pend_app]; exact gs
      · rw [msr_app]; omega
    · have ea : arrs p st = [] := (eb.resolve_left fun z => by rw [c] at z; cases z.1).2
      have gs : arrAll ps ++ (pend (further p st) ++ pend qs) = pend (begins tops.length R o) := by
        rw [← hsem, wf, ea]
        simp
      refine ⟨_, rfl, .inl ⟨rfl, _, .of hL5⟩, _, rfl, _, rfl, x, .ref t, tops, R, p, st, (L :: Fa :: Ls), rfl, hP.same sm5, hAp, hnp, hy5, hgp.less mp, ?_, fun l us H7 nl s7 hl hu => ?_⟩
      · intro a ha z
        rcases List.mem_cons.mp ha with e | ha
        · rw [e, hL5] at z; cases z
        rcases List.mem_cons.mp ha with e | ha
        · rw [e, hF5] at z; cases z
        cases e : H a with
        | none => exact hLs a ha e
        | some o => rw [sm5 _ _ e] at z; cases z
      have lus := hu.len
      have lF := msr_len (further p st)
      have sm7 := Same.trans sm5 s7
      have hL7 := s7 _ _ hL5
      have hF7 := s7 _ _ hF5
      refine ⟨L, l, ys, us, rfl, rfl, hL7, hl, by omega, ?_⟩
      have hu8 := waysMut (ys := ys ++ us) (List.mem_cons_of_mem l iL) hL7 hu
      have hY8 := waysMut (ys := ys ++ us) iL hL7 (waysS s7 hY5)
      have hf8 := waysMut (ys := ys ++ us) iL hL7 (waysS s7 hf5)
      have hu9 : A2 (WayIn K (L :: Fa :: Ls) (upd H7 L (.lst (ys ++ us)))) us (further p st) := A2.map (B' := _) (fun _ _ _ r => r.less fun a ha => .inr (List.mem_cons_of_mem _ ha)) (fun _ m => m) hu8
      refine ⟨_, ?_, ys ++ us, fv, qs ++ further p st, ps, _, _, rfl, sameMut sm7 nL0, upd_same, by rw [upd_ne (Ne.symm nLF)]; exact hF7, hY8.app hu9, hf8, fun y hy => ?_, hps, ?_, rfl, ?_⟩
      · rw [msr_app]; omega
      · rcases List.mem_append.mp hy with hy | hy
        · exact hok y (List.mem_append_left _ hy)
        · exact ok_further ht3 hRW hAp hnp hgp y hy
      · rw [pend_app]; exact gs
      · rw [msr_app]; omega

end

end LW

namespace LW
open PySem PySem.Spec PyProof.Rows L2
local macro_rules | `(tactic| walk_at "go1") => `(tactic| first
  | refine ⟨_, rfl, ?_⟩
  | refine ⟨_, _, rfl, rfl, ?_⟩
  | refine ⟨show (0 : Int) < _ from by omega, ?_⟩
  | refine ⟨show CMul _ _ from by first | exact .inl ⟨by omega, by omega⟩ | exact .inr ⟨by omega, by omega⟩, ?_⟩
  | refine ⟨show CDiv _ _ from ⟨by omega, by omega⟩, ?_⟩)
local macro_rules | `(tactic| walk_at "go") => `(tactic| repeat walk_at "go1")

section
variable {P : Program} {w : World} {K : PySem.W.Frag} {mg : Str → Option Value} {base : Heap}

/-- a task -/
structure Tk where
  start : List Nat
  truths : List Bool
  place : List Nat
  number : Nat
  many : Nat
  sums : List Sm
def askA (tops : List Int) (a : Arr) : List Sm := a.ws ++ if a.isLoop then bnd tops else []
def tkOf (s : List Nat) (a : Arr) (q : Sm × Nat) : Tk := ⟨s, a.st.truths, a.place, q.2, a.st.many, a.st.words ++ [pIn (opp q.1) a.st.boxes]⟩
def tkArr (tops : List Int) (s : List Nat) (a : Arr) : List Tk := (askA tops a).zipIdx.map (tkOf s a)
def begs (R : Rs) : List (Option Pos') := none :: (loopsP R [] 0 .top).map some
def tkBeg (tops : List Int) (R : Rs) (o : Option Pos') : List Tk := (pend (begins tops.length R o)).flatMap (tkArr tops (begPlace o))
def tasksP (tops : List Int) (R : Rs) : List Tk := (begs R).flatMap (tkBeg tops R)
theorem loPos : ∀ (rs : Rs) (r : Nat) (ah : List Nat) (i : Nat) (fr : Fr), rs.dep ≤ r → loP ((rs.ds.zipIdx i).flatMap fun q => plRow (plD r) (ah ++ [q.2]) q.1) = (loopsP rs ah i fr).map Pos'.at_
  | .nil, _, _, _, _, _ => rfl
  | .put b s t, r, ah, i, fr, h => by
    have ih := loPos t r ah (i + 1) fr h
    rw [Rs.ds, List.zipIdx_cons, List.flatMap_cons, loP_app, plR_put, loP_no (by simp [isLp, kinds]), ih]
    rfl
  | .say w t, r, ah, i, fr, h => by
    have ih := loPos t r ah (i + 1) fr h
    rw [Rs.ds, List.zipIdx_cons, List.flatMap_cons, loP_app, plR_say, loP_no (by simp [isLp, kinds]), ih]
    rfl
  | .ite w a b t, r, ah, i, fr, h => by
    simp only [Rs.dep] at h
    obtain ⟨r', rfl⟩ : ∃ r', r = r' + 1 := ⟨r - 1, by omega⟩
    have ih := loPos t (r' + 1) ah (i + 1) fr (by omega)
    have ia := loPos a r' (ah ++ [i, 0]) 0 (.ifF ah (i + 1) t fr) (by omega)
    have ib := loPos b r' (ah ++ [i, 1]) 0 (.ifF ah (i + 1) t fr) (by omega)
    rw [Rs.ds, List.zipIdx_cons, List.flatMap_cons, loP_app, plR_if, ih, show ∀ (d : Pd) (l : List Pd), d :: l = [d] ++ l from fun _ _ => rfl, loP_app, loP_no (by simp [isLp, kinds]), loP_app]
    rw [List.append_assoc, List.append_assoc]
    show loP ((a.ds.zipIdx 0).flatMap _) ++ (loP ((b.ds.zipIdx 0).flatMap _) ++ _) = _
    dsimp only
    rw [show ah ++ [i] ++ [0] = ah ++ [i, 0] by simp, show ah ++ [i] ++ [1] = ah ++ [i, 1] by simp, ia, ib]
    simp [loopsP]
  | .loop w ws b t, r, ah, i, fr, h => by
    simp only [Rs.dep] at h
    obtain ⟨r', rfl⟩ : ∃ r', r = r' + 1 := ⟨r - 1, by omega⟩
    have ih := loPos t (r' + 1) ah (i + 1) fr (by omega)
    have ib := loPos b r' (ah ++ [i, 0]) 0 (.loopF ah i w ws b t fr) (by omega)
    rw [Rs.ds, List.zipIdx_cons, List.flatMap_cons, loP_app, plR_loop, ih, show ∀ (d : Pd) (l : List Pd), d :: l = [d] ++ l from fun _ _ => rfl, loP_app, loP_one (by simp [isLp, kinds])]
    rw [List.append_assoc]
    show _ ++ (loP ((b.ds.zipIdx 0).flatMap _) ++ _) = _
    dsimp only
    rw [show ah ++ [i] ++ [0] = ah ++ [i, 0] by simp, ib]
    simp [loopsP, Pos'.at_]
theorem begs_places {R : Rs} (hd : R.dep ≤ 3) : (begs R).map begPlace = [] :: loP (plD 4 R.ds []) := by
  have h := loPos R 3 [] 0 .top hd
  rw [show plD 4 R.ds [] = (R.ds.zipIdx 0).flatMap fun q => plRow (plD 3) ([] ++ [q.2]) q.1 from rfl, h]
  simp [begs, begPlace, Pos'.at_]
theorem begs_ok {R : Rs} : ∀ o ∈ begs R, BegOk R o := fun o ho p e => by
  subst e
  simp [begs] at ho
  exact loopsP_at .top p ho
theorem begs_len {R : Rs} (hn : R.num ≤ 12) : (begs R).length ≤ 13 := by
  have := loopsP_len R [] 0 .top
  simp [begs]
  omega
/-- a task's sums are good -/
def GoodTk (n : Nat) (t : Tk) : Prop := (∀ s ∈ t.sums, s.1.length = n ∧ Wd 400 s.2 ∧ ∀ x ∈ s.1, Wd 400 x) ∧ 1 ≤ t.sums.length ∧ t.sums.length ≤ 18 ∧ t.many ≤ 14 ∧ t.truths.length ≤ 14 ∧ t.number ≤ 9
/-- a place where something is asked -/
def AskOk (tops : List Int) (a : Arr) : Prop := GoodSt tops.length 1 a.st ∧ (askA tops a).length ≤ 9 ∧ ∀ s ∈ askA tops a, s.1.length = tops.length ∧ Wd 8 s.2 ∧ ∀ x ∈ s.1, Wd 8 x
theorem tkGood {tops : List Int} {s : List Nat} {a : Arr} (n3 : tops.length ≤ 3) (h : AskOk tops a) : ∀ t ∈ tkArr tops s a, GoodTk tops.length t := fun t ht => by
  obtain ⟨⟨g1, g2, g3, g4, g5, g6⟩, h2, h3⟩ := h
  obtain ⟨⟨w, j⟩, hq, rfl⟩ := List.mem_map.mp ht
  have hj := List.mem_zipIdx_iff_getElem?.mp hq
  have hw := h3 w (List.mem_of_getElem? hj)
  have lj : j < (askA tops a).length := (List.getElem?_eq_some_iff.mp hj).1
  refine ⟨fun x hx => ?_, by simp [tkOf], by simp [tkOf]; omega, by simp [tkOf]; omega, by simp [tkOf]; omega, by simp [tkOf]; omega⟩
  rcases List.mem_append.mp hx with hx | hx
  · exact good3 (g4 x hx) (by omega)
  · rw [List.mem_singleton.mp hx]
    exact good3 (pIn_step g3 g2 n3 (opp_good hw)) (by omega)
/-- what a told way asks -/
def theArr (p : Pos') (st : St') : Arr := ⟨st, p.ah ++ [p.i], match p.rs with | .loop .. => true | _ => false, match p.rs with | .say w _ => [w] | .loop _ ws _ _ => ws | _ => []⟩
theorem arrOne {n : Nat} {R : Rs} {x : Pos' × St'} (h : IsArr n R x) : arrs x.1 x.2 = [theArr x.1 x.2] := by
  obtain ⟨⟨ah, i, rs, fr⟩, st⟩ := x
  obtain ⟨_, ⟨w, t, e⟩ | ⟨w, ws, b, t, e⟩, _⟩ := h <;> (dsimp only at e; subst e; rfl)
theorem arrAsk {tops : List Int} {n : Nat} {R : Rs} {x : Pos' × St'} (h : IsArr n R x) : askA tops (theArr x.1 x.2) = askP tops x.1.rs := by
  obtain ⟨⟨ah, i, rs, fr⟩, st⟩ := x
  obtain ⟨_, ⟨w, t, e⟩ | ⟨w, ws, b, t, e⟩, _⟩ := h <;> (dsimp only at e; subst e; simp [askA, theArr, askP])
theorem arrAll_map {n : Nat} {R : Rs} : ∀ {ps : List (Pos' × St')}, (∀ x ∈ ps, IsArr n R x) → arrAll ps = ps.map fun x => theArr x.1 x.2
  | [], _ => rfl
  | x :: r, h => by
    rw [arrAll, List.flatMap_cons, arrOne (h x (List.mem_cons_self ..))]
    show _ :: arrAll r = _
    rw [arrAll_map fun y hy => h y (List.mem_cons_of_mem _ hy)]
    rfl
def TkA (K : PySem.W.Frag) (Ls : List Addr) (H : Hp) (v : V) (p : Tk × Addr) : Prop := ∃ (a sa tr pa : Addr) (wvs : List V), v = .ref a ∧ SqT K H a [.ref sa, .ref tr, .ref pa, .int (p.1.number : Int), .int (p.1.many : Int), .ref p.2] ∧ SqT K H sa (nats p.1.start) ∧ SqT K H tr (p.1.truths.map V.bl) ∧ SqT K H pa (nats p.1.place) ∧ H p.2 = some (.lst wvs) ∧ A2 (SumIn K H) wvs p.1.sums ∧ p.2 ∉ Ls
theorem TkA.same {Ls : List Addr} {H H' : Hp} {v : V} {t : Tk × Addr} (e : Same H H') (h : TkA K Ls H v t) : TkA K Ls H' v t := by
  obtain ⟨a, sa, tr, pa, wvs, e0, h1, h2, h3, h4, h5, h6, h7⟩ := h
  exact ⟨a, sa, tr, pa, wvs, e0, tupS e h1, tupS e h2, tupS e h3, tupS e h4, e _ _ h5, sumsS (tsOf e) h6, h7⟩
theorem TkA.mut {Ls : List Addr} {H : Hp} {L : Addr} {xs ys : List V} {v : V} {t : Tk × Addr} (hL : L ∈ Ls) (e : H L = some (.lst xs)) (h : TkA K Ls H v t) : TkA K Ls (upd H L (.lst ys)) v t := by
  obtain ⟨a, sa, tr, pa, wvs, e0, h1, h2, h3, h4, h5, h6, h7⟩ := h
  have t0 : TS H (upd H L (.lst ys)) := tsLst e
  refine ⟨a, sa, tr, pa, wvs, e0, tsTup t0 h1, tsTup t0 h2, tsTup t0 h3, tsTup t0 h4, ?_, sumsS t0 h6, h7⟩
  rw [upd_ne (fun e => h7 (by rw [e]; exact hL))]
  exact h5
theorem TkA.has {Ls : List Addr} {H : Hp} {v : V} {t : Tk × Addr} (h : TkA K Ls H v t) : H t.2 ≠ none := by
  obtain ⟨a, sa, tr, pa, wvs, e0, h1, h2, h3, h4, h5, h6, h7⟩ := h
  rw [h5]
  simp
theorem a2All {α β : Type} {R : α → β → Prop} : ∀ {a : List α} {b : List β}, A2 R a b → ∀ y ∈ b, ∃ x ∈ a, R x y
  | _, _, .nil, y, h => by cases h
  | _, _, .cons r t, y, h => by
    rcases List.mem_cons.mp h with rfl | h
    · exact ⟨_, List.mem_cons_self .., r⟩
    · obtain ⟨x, hx, hr⟩ := a2All t y h
      exact ⟨x, List.mem_cons_of_mem _ hx, hr⟩
/-- tasks told in a list, each with a list of sums of its own -/
def TksIn (K : PySem.W.Frag) (L : Addr) (H0 H : Hp) (us : List V) (X : List Tk) : Prop := ∃ ps : List (Tk × Addr), ps.map (·.1) = X ∧ A2 (TkA K [L] H) us ps ∧ (ps.map (·.2)).Nodup ∧ ∀ p ∈ ps, H0 p.2 = none
theorem TksIn.nil {L : Addr} {H0 H : Hp} : TksIn K L H0 H [] [] := ⟨[], rfl, .nil, List.nodup_nil, fun p hp => by cases hp⟩
theorem TksIn.len {L : Addr} {H0 H : Hp} {us : List V} {X : List Tk} (h : TksIn K L H0 H us X) : us.length = X.length := by
  obtain ⟨ps, rfl, h1, _⟩ := h
  rw [List.length_map]
  exact h1.len
theorem TksIn.same {L : Addr} {H0 H H' : Hp} {us : List V} {X : List Tk} (h : TksIn K L H0 H us X) (e : Same H H') : TksIn K L H0 H' us X := by
  obtain ⟨ps, h0, h1, h2⟩ := h
  exact ⟨ps, h0, A2.map (B' := ps) (fun _ _ _ r => r.same e) (fun _ m => m) h1, h2⟩
theorem TksIn.snoc {L Z : Addr} {H0 Hb H : Hp} {us xs ys : List V} {X : List Tk} {v : V} {t : Tk} (h : TksIn K L H0 Hb us X) (nz : Hb Z = none) (n0 : H0 Z = none) (s : Same Hb H) (hL : H L = some (.lst xs)) (hn : TkA K [L] H v (t, Z)) : TksIn K L H0 (upd H L (.lst ys)) (us ++ [v]) (X ++ [t]) := by
  obtain ⟨ps, rfl, h1, h2, h3⟩ := h
  have iL : L ∈ [L] := List.mem_singleton.mpr rfl
  refine ⟨ps ++ [(t, Z)], by simp, A2.app (A2.map (B' := ps) (fun _ _ _ r => (r.same s).mut iL hL) (fun _ m => m) h1) (.cons (hn.mut iL hL) .nil), ?_, fun p hp => ?_⟩
  · rw [List.map_append, List.nodup_append]
    refine ⟨h2, by simp, fun a ha b hb => ?_⟩
    obtain ⟨p, hp, rfl⟩ := List.mem_map.mp ha
    simp at hb
    subst hb
    obtain ⟨u, _, hr⟩ := a2All h1 p hp
    exact fun e => hr.has (by rw [e]; exact nz)
  · rcases List.mem_append.mp hp with hp | hp
    · exact h3 p hp
    · rw [List.mem_singleton.mp hp]
      exact n0
/-- all but one list stays -/
theorem butTL {ds : Addr} {H H' : Hp} {xs : List V} (e : But ds H H') (hd : H ds = some (.lst xs)) : TS H H' := fun a =>
  ⟨fun ys h => e _ _ (fun z => by rw [z, hd] at h; cases h) h, fun o u h => by
    by_cases z : a = ds
    · subst z
      rw [hd] at h
      cases h
    · exact e _ _ z h⟩
theorem butMut {L : Addr} {H H' : Hp} {o : HO} (e : But L H H') : But L H (upd H' L o) := fun b p n h => by
  rw [upd_ne n]
  exact e b p n h
theorem sameButL {L : Addr} {H0 H H' : Hp} (s : Same H0 H) (n : H0 L = none) (e : But L H H') : Same H0 H' := fun b o h => e b o (fun z => by rw [z, n] at h; cases h) (s b o h)
theorem WayIn.but {Ls : List Addr} {H H' : Hp} {L : Addr} {xs : List V} {v : V} {x : Option Pos' × St'} (hL : L ∈ Ls) (e : But L H H') (h0 : H L = some (.lst xs)) (h : WayIn K Ls H v x) : WayIn K Ls H' v x := by
  obtain ⟨t, tr, bl, wl, pv, bvs, wvs, e0, h1, h2, h3, h4, h5, h6, h7, h8, h9⟩ := h
  have t0 := butTL e h0
  exact ⟨t, tr, bl, wl, pv, bvs, wvs, e0, tsTup t0 h1, tsTup t0 h2, h3.ts t0, e _ _ (fun z => h8 (by rw [z]; exact hL)) h4, sumsS t0 h5, e _ _ (fun z => h9 (by rw [z]; exact hL)) h6, sumsS t0 h7, h8, h9⟩
theorem lkLoops {a b : V} : List.lookup ("loops" : Str) ([(("_tops" : Str), a), (("rows" : Str), b)] : List (Str × V)) = none := lkTopsNo (by decide +kernel) (by decide +kernel)
theorem flatTakeA {α β : Type} {l : List α} {f : α → List β} {i : Nat} {d : α} (e : l[i]? = some d) : (l.take (i + 1)).flatMap f = (l.take i).flatMap f ++ f d := by
  obtain ⟨hi, e1⟩ := List.getElem?_eq_some_iff.mp e
  subst e1
  rw [List.take_succ_eq_append_getElem hi, List.flatMap_append]
  simp
theorem mapTakeA {α β : Type} {l : List α} {f : α → β} {i : Nat} {d : α} (e : l[i]? = some d) : (l.take (i + 1)).map f = (l.take i).map f ++ [f d] := by
  obtain ⟨hi, e1⟩ := List.getElem?_eq_some_iff.mp e
  subst e1
  rw [List.take_succ_eq_append_getElem hi, List.map_append]
  simp
abbrev s_tasks : Stmt := topS 32
theorem sc_tasks : FnScope ["program", "told", "start", "truths", "place", "many", "boxes", "words", "number", "word", "last"] ["program"] (defScope s_tasks) := ⟨rfl, rfl, rfl, by decide +kernel, rfl, by decide +kernel, by decide +kernel⟩

def spTasks (K : PySem.W.Frag) (C : Addr) : Sp := fun vs H Q _ => ∃ (x : Addr) (tops : List Int) (R : Rs), vs = [.ref x] ∧ PgIn K H C x tops R ∧
  ∀ (l : Addr) (us : List V) (H' : Hp), H l = none → Same H H' → H' l = some (.lst us) → TksIn K l H H' us (tasksP tops R) → (∀ t ∈ tasksP tops R, GoodTk tops.length t) → us.length ≤ 3000000 → Q (.ref l) H'
theorem ok_tasks {f C : Addr} {fd : FuncData} {k : Nat} (F : Fun K "tasks" "tasks" s_tasks f fd) (B : Bl mg) (qcl : Cls K C) (q_loops : CalM P w K mg base (k + 1) C "loops" (spLoops K C)) (c__ways : C8.Cal P w K mg base (k + 1) "_ways" (spWays K C) []) (c_asked : C8.Cal P w K mg base (k + 1) "asked" (spAsked K C) []) (c_put_in : C8.Cal P w K mg base (k + 1) "put_in" (spPut K) []) (c_opposite : C8.Cal P w K mg base (k + 1) "opposite" (spOpp K) []) : FnOk P w K mg base CX0 (k + 2) f fd ["program"] (spTasks K C) := by
  refine F.ok sc_tasks (fun vs H Q E h => ?_) (fun cdv A outer s H vs Q E hr h => ?_)
  · obtain ⟨x, tops, R, rfl, _⟩ := h
    rfl
  obtain ⟨x, tops, R, rfl, hP, q⟩ := h
  refine ⟨_, (pss_cons (ps_set (i := 1) sc_tasks.nd rfl (.inl rfl) (pe_lst pa_nil))
    (pss_cons (ps_for PassesOwn.never rfl (kList_ (K := K) rfl (pe_op op_cat (pe_lst (pa_cons (pe_tup pa_nil) pa_nil)) (pM0 q_loops qcl hr (by omega) (pv 0)))) (pg_name (i := 2) sc_tasks.nd rfl (.inl rfl))
      (pss_one (ps_for PassesOwn.never rfl (kList_ (K := K) rfl (C8.pe_c c__ways hr (Nat.le_refl _) (by rfl) (pa_cons (pv 0) (pa_cons (pv 2) pa_nil)))) (kTn (K := K) rfl rfl (pgs_cons (pg_name (i := 3) sc_tasks.nd rfl (.inl rfl)) (pgs_cons (pg_name (i := 4) sc_tasks.nd rfl (.inl rfl)) (pgs_cons (pg_name (i := 5) sc_tasks.nd rfl (.inl rfl)) (pgs_cons (pg_name (i := 6) sc_tasks.nd rfl (.inl rfl)) (pgs_cons (pg_name (i := 7) sc_tasks.nd rfl (.inl rfl)) pgs_nil))))))
        (pss_one (ps_for PassesOwn.never rfl (kE (K := K) rfl false (by rfl) B.enumerate (pa_cons (C8.pe_c c_asked hr (Nat.le_refl _) (by rfl) (pa_cons (pv 0) (pa_cons (pv 4) pa_nil))) pa_nil)) (kT2 (K := K) rfl rfl (pg_name (i := 8) sc_tasks.nd rfl (.inl rfl)) (pg_name (i := 9) sc_tasks.nd rfl (.inl rfl)))
          (pss_cons (ps_set (i := 10) sc_tasks.nd rfl (.inl rfl) (C8.pe_c c_put_in hr (Nat.le_refl _) (by rfl) (pa_cons (C8.pe_c c_opposite hr (Nat.le_refl _) (by rfl) (pa_cons (pv 9) pa_nil)) (pa_cons (pv 6) pa_nil))))
          (pss_one (ps_expr (pe_bm PySem.F.plainAttrs_list PySem.F.slot_list_append PySem.F.type_list_append mt_append (pv 1) (pa_cons (pe_tup (pa_cons (pv 2) (pa_cons (pv 3) (pa_cons (pv 4) (pa_cons (pv 8) (pa_cons (pv 5) (pa_cons (pe_op op_cat (pv 7) (pe_lst (pa_cons (pv 10) pa_nil))) pa_nil))))))) pa_nil))))))))))
    (pss_one (ps_ret (pv 1))))), ?_⟩
  obtain ⟨hRW, hTW, hN, hD⟩ := pgT hP
  have ht3 := hTW.2.1
  have ht1 := hTW.1
  obtain ⟨dx, tt, aa, hx⟩ := hP.obj
  have szl : (10000000 : Nat) < sizeLine := by decide
  refine ⟨by show 0 ≤ sizeLine; decide, fun L nL => ?_⟩
  have sL := sameNew (o := .lst []) nL
  refine ⟨by show 0 ≤ sizeLine; decide, fun T nT => ⟨by show 1 ≤ sizeLine; decide, fun A nA => ?_⟩⟩
  have sT := sameNew (o := .tup []) nT
  have sA := sameNew (o := .lst [.ref T]) nA
  have s0A := Same.trans sL (Same.trans sT sA)
  have hLA : upd (upd (upd H L (.lst [])) T (.tup [])) A (.lst [.ref T]) L = some (.lst []) := Same.trans sT sA _ _ upd_same
  have hTA : SqT K (upd (upd (upd H L (.lst [])) T (.tup [])) A (.lst [.ref T])) T [] := .of (sA _ _ upd_same)
  have hAA : upd (upd (upd H L (.lst [])) T (.tup [])) A (.lst [.ref T]) A = some (.lst [.ref T]) := upd_same
  generalize upd (upd (upd H L (.lst [])) T (.tup [])) A (.lst [.ref T]) = H1 at *
  obtain ⟨a, xs, g1, g2, g3, g4, g5, g6, g7, g8⟩ := hP.same s0A
  have hc : cnt 4 (.tup R.ds) ≤ 1000 := by rw [rs_cnt R 3 g6]; omega
  refine ⟨_, rfl, x, dx, _, rfl, s0A _ _ hx, lkLoops, tops.length, x, a, tops, xs, R.ds, rfl, g1, g2, g3, g4, hc, fun pl H2 lv npl s2 hpl hlv => ?_⟩
  have hlvP := hlv.len
  have hbl := begs_len hN
  have eBP := begs_places hD
  have lBP := congrArg List.length eBP
  rw [List.length_map, List.length_cons] at lBP
  refine ⟨A, pl, _, _, rfl, rfl, s2 _ _ hAA, hpl, by rw [List.length_singleton]; omega, fun S nS => ?_⟩
  have sS := sameNew (o := .lst ([.ref T] ++ lv)) nS
  have hL3 := sS _ _ (s2 _ _ hLA)
  have hS3 : upd H2 S (.lst ([.ref T] ++ lv)) S = some (.lst ([.ref T] ++ lv)) := upd_same
  have hV3 : A2 (PlcIn K (upd H2 S (.lst ([.ref T] ++ lv)))) ([.ref T] ++ lv) ((begs R).map begPlace) := by
    rw [eBP]
    exact .cons ⟨T, rfl, tupS (Same.trans s2 sS) hTA⟩ (plcTS (tsOf sS) hlv)
  have s03 := Same.trans s0A (Same.trans s2 sS)
  have nSL : S ≠ L := fun e => by
    have := s2 _ _ hLA
    rw [← e, nS] at this
    cases this
  generalize upd H2 S (.lst ([.ref T] ++ lv)) = H3 at *
  generalize [V.ref T] ++ lv = sv at *
  have lsv := hV3.len
  rw [List.length_map] at lsv
  clear hLA hTA hAA g1 g2 g3 npl s2 hpl hlv sS nS sA nA sT nT sL hlvP lBP
  refine ⟨S, rfl, ⟨_, .of hS3⟩, ?_⟩
  refine for_it (walk_list (xs := sv)) (fun j σ H' => But L H3 H' ∧ ∃ (us : List V) (y2 y3 y4 y5 y6 y7 y8 y9 y10 : Option V), σ = [some (.ref x), some (.ref L), y2, y3, y4, y5, y6, y7, y8, y9, y10] ∧ H' L = some (.lst us) ∧ TksIn K L H H' us (((begs R).take j).flatMap (tkBeg tops R)) ∧ (∀ t ∈ ((begs R).take j).flatMap (tkBeg tops R), GoodTk tops.length t) ∧ us.length ≤ 180000 * j)
    ⟨But.refl _ _, [], none, none, none, none, none, none, none, none, none, rfl, hL3, .nil, (by intro t ht; cases ht), Nat.le_refl _⟩ (fun j σ H' _ p => .of (p.1 _ _ nSL hS3)) (fun j xv σ H4 H4' hj p y => ?_) (fun σ H' p => ?_)
  · obtain ⟨b4, us, y2, y3, y4, y5, y6, y7, y8, y9, y10, rfl, hL4, hU4, hG4, hl4⟩ := p
    obtain ⟨rfl, ex⟩ := y
    obtain ⟨plc, epl, sa, rfl, hsa3⟩ := A2.at hV3 ex
    rw [List.getElem?_map] at epl
    obtain ⟨o, eo, rfl⟩ := Option.map_eq_some_iff.mp epl
    have hsa4 : SqT K H4' sa (nats (begPlace o)) := tsTup (butTL b4 hL3) hsa3
    have s04 := sameButL s03 nL b4
    have mo := List.mem_of_getElem? eo
    refine ⟨_, rfl, _, rfl, x, sa, tops, R, o, [L], rfl, hP.same s04, begs_ok o mo, hsa4, (fun M hM => by rw [List.mem_singleton.mp hM, hL4]; simp), fun Fl fv ps H5 nF s5 hF hfv hps hsem hlen => ?_⟩
    have nFL : Fl ≠ L := fun e => by rw [e, hL4] at nF; cases nF
    have hL5 := s5 _ _ hL4
    have b5 := b4.trans (butOf s5)
    have hU5 := hU4.same s5
    have lfv := hfv.len
    have lup : (up1 ps).length = ps.length := by simp [up1]
    have eAll : pend (begins tops.length R o) = ps.map fun x => theArr x.1 x.2 := by rw [← hsem, arrAll_map hps]
    refine ⟨Fl, rfl, ⟨_, .of hF⟩, ?_⟩
    refine for_it (walk_list (xs := fv)) (fun i σ H' => But L H5 H' ∧ ∃ (us : List V) (y3 y4 y5 y6 y7 y8 y9 y10 : Option V), σ = [some (.ref x), some (.ref L), some (.ref sa), y3, y4, y5, y6, y7, y8, y9, y10] ∧ H' L = some (.lst us) ∧ TksIn K L H H' us (((begs R).take j).flatMap (tkBeg tops R) ++ (ps.take i).flatMap fun x => tkArr tops (begPlace o) (theArr x.1 x.2)) ∧ (∀ t ∈ ((begs R).take j).flatMap (tkBeg tops R) ++ (ps.take i).flatMap fun x => tkArr tops (begPlace o) (theArr x.1 x.2), GoodTk tops.length t) ∧ us.length ≤ 180000 * j + 9 * i)
      ⟨But.refl _ _, us, y3, y4, y5, y6, y7, y8, y9, y10, rfl, hL5, by simpa using hU5, by simpa using hG4, by omega⟩ (fun i σ H' _ p => .of (p.1 _ _ nFL hF)) (fun i wv σ H6 H6' hi p y => ?_) (fun σ H' p => ?_)
    · obtain ⟨b6, us6, z3, z4, z5, z6, z7, z8, z9, z10, rfl, hL6, hU6, hG6, hl6⟩ := p
      obtain ⟨rfl, ex6⟩ := y
      obtain ⟨⟨op, st⟩, eup, hw5⟩ := A2.at hfv ex6
      rw [up1, List.getElem?_map] at eup
      obtain ⟨⟨p, st'⟩, ep, e2⟩ := Option.map_eq_some_iff.mp eup
      cases e2
      have hAr := hps _ (List.mem_of_getElem? ep)
      have hIA := hAr
      obtain ⟨hAp, kind, hg⟩ := hAr
      dsimp only at hAp kind hg
      have hw6 := (hw5.less (Ms := [L]) fun a ha => .inr (List.mem_cons_of_mem _ ha)).but (List.mem_singleton.mpr rfl) b6 hL5
      obtain ⟨t, tr, bl, wl, pv, bvs, wvs, rfl, h1, h2, ⟨pa, rfl, h3⟩, h4, h5, h6, h7, h8, h9⟩ := hw6
      dsimp only at h1 h2 h3 h4 h5 h6 h7
      have s06 := sameButL s03 nL (b5.trans b6)
      have nbl : bl ≠ L := fun e => h8 (by rw [e]; exact List.mem_singleton.mpr rfl)
      have nwl : wl ≠ L := fun e => h9 (by rw [e]; exact List.mem_singleton.mpr rfl)
      have hsa6 : SqT K H6' sa (nats (begPlace o)) := tsTup (butTL b6 hL5) (tupS s5 hsa4)
      refine ⟨_, _, rfl, h1, rfl, _, _, rfl, _, _, rfl, _, _, rfl, _, _, rfl, _, _, rfl, rfl, ?_⟩
      refine ⟨_, rfl, _, rfl, x, pa, tops, R, p, rfl, hP.same s06, hAp, kind, h3, fun al as H7 nal s7 hal has => ?_⟩
      have nalL : al ≠ L := fun e => by rw [e, hL6] at nal; cases nal
      have hL7 := s7 _ _ hL6
      have hU7 := hU6.same s7
      have las := has.len
      have eask := arrAsk (tops := tops) hIA
      dsimp only at eask
      rw [← eask] at has las
      have hg0 : GoodSt tops.length 1 (theArr p st').st := hg
      obtain ⟨g1', g2', g3', g4', g5', g6'⟩ := hg
      have lask : (askA tops (theArr p st')).length ≤ 9 := by
        rw [eask]
        have hW := hAp.w hRW
        rcases kind with ⟨w, t, e⟩ | ⟨w, ws, b, t, e⟩
        · rw [e]; simp [askP]
        · rw [e] at hW ⊢
          have := hW.2.2.1
          simp only [askP, List.length_append, bnd_len]
          omega
      have gask : ∀ s ∈ askA tops (theArr p st'), s.1.length = tops.length ∧ Wd 8 s.2 ∧ ∀ x ∈ s.1, Wd 8 x := by
        rw [eask]
        exact ask_good hTW (hAp.w hRW)
      refine ⟨al, _, rfl, .of hal, ?_⟩
      refine for_it (walkE (b := false) (xs := as)) (fun m σ H' => But L H7 H' ∧ ∃ (us : List V) (y8 y9 y10 : Option V), σ = [some (.ref x), some (.ref L), some (.ref sa), some (.ref tr), some (.ref pa), some (.int (st'.many : Int)), some (.ref bl), some (.ref wl), y8, y9, y10] ∧ H' L = some (.lst us) ∧ TksIn K L H H' us (((begs R).take j).flatMap (tkBeg tops R) ++ ((ps.take i).flatMap fun x => tkArr tops (begPlace o) (theArr x.1 x.2)) ++ (((askA tops (theArr p st')).zipIdx).take m).map (tkOf (begPlace o) (theArr p st'))) ∧ us.length ≤ 180000 * j + 9 * i + m)
        ⟨But.refl _ _, us6, z8, z9, z10, rfl, hL7, by simpa using hU7, by omega⟩ (fun m σ H' _ p => .of (p.1 _ _ nalL hal)) (fun m zv σ H8 H8' hm p y => ?_) (fun σ H' p => ?_)
      · obtain ⟨b8, us8, y8', y9', y10', rfl, hL8, hU8, hl8⟩ := p
        obtain ⟨T2, x1, x2, rfl, nT2, rfl, e1, e2⟩ := y
        cases e1
        obtain ⟨wd, ew, hx2⟩ := A2.at has e2
        have hwd := gask _ (List.mem_of_getElem? ew)
        have sT2 := sameNew (o := .tup [.int (m : Nat), x2]) nT2
        refine ⟨_, _, rfl, .of upd_same, rfl, _, _, rfl, _, _, rfl, rfl, ?_⟩
        have b9 := b8.trans (butOf sT2)
        have ts9 := butTL b9 hL7
        have ts69 := TS.trans (tsOf s7) ts9
        have hx9 := tsSum ts9 hx2
        have h4' := b9 _ _ nbl (s7 _ _ h4)
        have h6' := b9 _ _ nwl (s7 _ _ h6)
        have h5' := sumsS ts69 h5
        have h7' := sumsS ts69 h7
        have hL9 := sT2 _ _ hL8
        have hU9 := hU8.same sT2
        generalize upd H8 T2 (.tup [.int (m : Nat), x2]) = H9 at *
        refine ⟨_, rfl, x2, wd, rfl, hx9, by have := hwd.1; omega, fun H10 v10 s10 hv10 => ?_⟩
        refine ⟨_, rfl, putUse (E := C8.E0) hv10 (s10 _ _ h4') (sumsS (tsOf s10) h5') g2' ht1 ht3 g3' (by omega) (opp_good hwd) fun H11 v11 s11 hv11 => ?_⟩
        have s911 := Same.trans s10 s11
        refine ⟨_, rfl, .inl ⟨rfl, _, .of (s911 _ _ hL9)⟩, _, rfl, _, rfl, _, rfl, _, rfl, _, rfl, _, rfl, _, rfl, by show 1 ≤ sizeLine; decide, fun Y nY => ?_⟩
        have lwv := h7'.len
        refine ⟨wl, Y, _, _, rfl, rfl, sameNew nY _ _ (s911 _ _ h6'), upd_same, by rw [List.length_singleton]; omega, fun Z nZ => ⟨by show 6 ≤ sizeLine; decide, fun U nU => ?_⟩⟩
        have sY := sameNew (o := .lst [v11]) nY
        have sZ := sameNew (o := .lst (wvs ++ [v11])) nZ
        have sU := sameNew (o := .tup [.ref sa, .ref tr, .ref pa, .int (m : Int), .int (st'.many : Int), .ref Z]) nU
        have sYU := Same.trans sY (Same.trans sZ sU)
        have s9U := Same.trans s911 sYU
        have hLU := s9U _ _ hL9
        have nZL : Z ≠ L := fun e => by
          have := sY _ _ (s911 _ _ hL9)
          rw [e, this] at nZ
          cases nZ
        have hZU := sU _ _ (show upd _ Z (.lst (wvs ++ [v11])) Z = _ from upd_same)
        have hUU : upd (upd (upd H11 Y (.lst [v11])) Z (.lst (wvs ++ [v11]))) U (.tup [.ref sa, .ref tr, .ref pa, .int (m : Int), .int (st'.many : Int), .ref Z]) U = some (.tup [.ref sa, .ref tr, .ref pa, .int (m : Int), .int (st'.many : Int), .ref Z]) := upd_same
        have hwU := (sumsS (tsOf s9U) h7').app (.cons (SumIn.mono sYU hv11) .nil)
        have hUb := hU9.same (Same.trans s911 sY)
        have sZU := Same.trans sZ sU
        have n0Z : H Z = none := Same.free (Same.trans (sameButL (Same.trans s06 s7) nL b9) (Same.trans s911 sY)) nZ
        have b12 := b9.trans (butOf s9U)
        have tsU := TS.trans ts69 (tsOf s9U)
        generalize upd (upd (upd H11 Y (.lst [v11])) Z (.lst (wvs ++ [v11]))) U (.tup [.ref sa, .ref tr, .ref pa, .int (m : Int), .int (st'.many : Int), .ref Z]) = H12 at *
        have ltk := hU8.len
        refine ⟨L, us8, _, rfl, rfl, hLU, by omega, ?_⟩
        have iL1 : L ∈ [L] := List.mem_singleton.mpr rfl
        have hnew : TkA K [L] H12 (.ref U) (tkOf (begPlace o) (theArr p st') (wd, m), Z) := ⟨U, sa, tr, pa, _, rfl, .of hUU, tsTup tsU hsa6, tsTup tsU h2, tsTup tsU h3, hZU, hwU, fun z => nZL (List.mem_singleton.mp z)⟩
        refine ⟨butMut b12, us8 ++ [.ref U], _, _, _, rfl, upd_same, ?_, by rw [List.length_append, List.length_singleton]; omega⟩
        have ez : (askA tops (theArr p st')).zipIdx[m]? = some (wd, m) := by
          rw [List.getElem?_zipIdx, ew]
          simp
        rw [mapTakeA ez, ← List.append_assoc]
        exact hUb.snoc nZ n0Z sZU hLU hnew
      · obtain ⟨b8, us8, y8', y9', y10', rfl, hL8, hU8, hl8⟩ := p
        have eT : (((askA tops (theArr p st')).zipIdx).take as.length).map (tkOf (begPlace o) (theArr p st')) = tkArr tops (begPlace o) (theArr p st') := by
          rw [las, show (askA tops (theArr p st')).length = (askA tops (theArr p st')).zipIdx.length by simp, List.take_length]
          rfl
        rw [eT] at hU8
        have e3 := flatTakeA (f := fun x : Pos' × St' => tkArr tops (begPlace o) (theArr x.1 x.2)) ep
        dsimp only at e3
        refine ⟨b6.trans ((butOf s7).trans b8), us8, _, _, _, _, _, _, _, _, rfl, hL8, ?_, fun t ht => ?_, by omega⟩
        · rw [e3, ← List.append_assoc]
          exact hU8
        · rw [e3, ← List.append_assoc] at ht
          rcases List.mem_append.mp ht with ht | ht
          · exact hG6 t ht
          · exact tkGood ht3 ⟨hg0, lask, gask⟩ t ht
    · obtain ⟨b6, us6, z3, z4, z5, z6, z7, z8, z9, z10, rfl, hL6, hU6, hG6, hl6⟩ := p
      have e4 : (ps.take fv.length).flatMap (fun x => tkArr tops (begPlace o) (theArr x.1 x.2)) = tkBeg tops R o := by
        rw [lfv, lup, List.take_length, tkBeg, eAll, List.flatMap_map]
      rw [e4] at hU6 hG6
      have e5 := flatTakeA (f := tkBeg tops R) eo
      rw [← e5] at hU6 hG6
      exact ⟨b5.trans b6, us6, _, _, _, _, _, _, _, _, _, rfl, hL6, hU6, hG6, by omega⟩
  · obtain ⟨b4, us, y2, y3, y4, y5, y6, y7, y8, y9, y10, rfl, hL4, hU4, hG4, hl4⟩ := p
    rw [lsv, List.take_length] at hU4 hG4
    exact ⟨_, rfl, q L us H' nL (sameButL s03 nL b4) hL4 hU4 hG4 (by omega)⟩

end

end LW

namespace LW
open PySem PySem.Spec PyProof.Rows L2
local macro_rules | `(tactic| walk_at "go1") => `(tactic| first
  | refine ⟨_, rfl, ?_⟩
  | refine ⟨_, _, rfl, rfl, ?_⟩
  | refine ⟨show (0 : Int) < _ from by omega, ?_⟩
  | refine ⟨show CMul _ _ from by first | exact .inl ⟨by omega, by omega⟩ | exact .inr ⟨by omega, by omega⟩, ?_⟩
  | refine ⟨show CDiv _ _ from ⟨by omega, by omega⟩, ?_⟩)
local macro_rules | `(tactic| walk_at "go") => `(tactic| repeat walk_at "go1")

section
variable {P : Program} {w : World} {K : PySem.W.Frag} {mg : Str → Option Value} {base : Heap}

abbrev s__law_at : Stmt := topS 39
theorem sc__law_at : FnScope ["_law_script", "_law_k", "_law_cell"] ["_law_script", "_law_k"] (defScope s__law_at) := ⟨rfl, rfl, rfl, by decide +kernel, rfl, by decide +kernel, by decide +kernel⟩

def spAt (K : PySem.W.Frag) : Sp := fun vs H Q _ => ∃ (a : Addr) (ns : List Int) (k : Int), vs = [.ref a, .int k] ∧ SqL K H a (ns.map V.int) ∧ ns.length ≤ 63 ∧ 0 ≤ k ∧ k ≤ 1000 ∧ ∀ i : Int, 0 ≤ i → i < 1000003 → Q (.int i) H
theorem ok__law_at {f : Addr} {fd : FuncData} {k : Nat} (F : Fun K "_law_at" "_law_at" s__law_at f fd) (B : Bl mg) : FnOk P w K mg base CX0 (k + 1) f fd ["_law_script", "_law_k"] (spAt K) := by
  refine F.ok sc__law_at (fun vs H Q E h => ?_) (fun cdv A outer s H vs Q E hr h => ?_)
  · obtain ⟨a, ns, k, rfl, _⟩ := h
    rfl
  obtain ⟨a, ns, k, rfl, hS, h63, k0, k1, q⟩ := h
  refine ⟨_, (pss_cons (ps_set (i := 2) sc__law_at.nd rfl (.inl rfl) pe_int)
    (pss_cons (ps_if (pt_cmpR op_gt (pe_callB (kLen (K := K) rfl) (by rfl) B.len PySem.boot_len (pa_cons (pv 0) pa_nil)) pe_int (nomark _))
      (pss_one (ps_set (i := 2) sc__law_at.nd rfl (.inl rfl) (pe_ix (kIxL (K := K) rfl) (pv 0) (pe_op op_mod (pv 1) (pe_callB (kLen (K := K) rfl) (by rfl) B.len PySem.boot_len (pa_cons (pv 0) pa_nil))) (fun _ _ => rfl))))
      pss_nil)
    (pss_one (ps_ret (pe_op op_mod (pe_op op_mul (pe_op op_add (pv 2) (pe_op op_mul pe_int (pv 1))) pe_int) pe_int))))), ?_⟩
  walk_at "go"
  refine ⟨_, _, rfl, .inl hS, ?_⟩
  walk_at "go"
  have lm : (ns.map V.int).length = ns.length := List.length_map _
  refine ite2 (fun c => ?_) (fun c => ?_)
  · have c' : (0 : Int) < ((ns.map V.int).length : Int) := of_decide_eq_true c
    walk_at "go"
    refine ⟨_, _, rfl, .inl hS, ?_⟩
    walk_at "go"
    have hm0 : 0 ≤ k % ((ns.map V.int).length : Int) := Int.emod_nonneg _ (by omega)
    have hm1 : k % ((ns.map V.int).length : Int) < ((ns.map V.int).length : Int) := Int.emod_lt_of_pos _ c'
    obtain ⟨j, hj⟩ : ∃ j : Nat, k % ((ns.map V.int).length : Int) = (j : Int) := ⟨(k % ((ns.map V.int).length : Int)).toNat, by omega⟩
    have hjl : j < ns.length := by omega
    refine ⟨_, _, _, .int ns[j], rfl, rfl, hS, ?_, ?_⟩
    · rw [hj]
      exact atI_nat (by rw [List.getElem?_map, List.getElem?_eq_getElem hjl]; rfl)
    walk_at "go"
    exact q _ (Int.emod_nonneg _ (by decide)) (Int.emod_lt_of_pos _ (by decide))
  · walk_at "go"
    exact q _ (Int.emod_nonneg _ (by decide)) (Int.emod_lt_of_pos _ (by decide))

theorem atMem {xs : List Int} {i : Int} (h0 : 0 ≤ i) (h1 : i < xs.length) : ∃ v, atI (xs.map V.int) i = some (.int v) ∧ v ∈ xs := by
  obtain ⟨j, rfl⟩ : ∃ j : Nat, i = (j : Int) := ⟨i.toNat, by omega⟩
  have hj : j < xs.length := by omega
  exact ⟨xs[j], atI_nat (intAt hj), List.getElem_mem _⟩
abbrev s__law_tops : Stmt := topS 41
theorem sc__law_tops : FnScope ["_law_script", "_law_cell", "_law_many", "_law_most", "_law_found", "_law_k"] ["_law_script"] (defScope s__law_tops) := ⟨rfl, rfl, rfl, by decide +kernel, rfl, by decide +kernel, by decide +kernel⟩

def spTopsG (K : PySem.W.Frag) : Sp := fun vs H Q _ => ∃ (a : Addr) (ns : List Int), vs = [.ref a] ∧ SqL K H a (ns.map V.int) ∧ ns.length ≤ 63 ∧ ∀ (p : Addr) (H' : Hp) (tops : List Int), H p = none → Same H H' → H' p = some (.lst (tops.map V.int)) → TopsW tops → Q (.ref p) H'
theorem ok__law_tops {f : Addr} {fd : FuncData} {k : Nat} (F : Fun K "_law_tops" "_law_tops" s__law_tops f fd) (B : Bl mg) (c__law_at : C8.Cal P w K mg base k "_law_at" (spAt K) []) : FnOk P w K mg base CX0 (k + 1) f fd ["_law_script"] (spTopsG K) := by
  refine F.ok sc__law_tops (fun vs H Q E h => ?_) (fun cdv A outer s H vs Q E hr h => ?_)
  · obtain ⟨a, ns, rfl, _⟩ := h
    rfl
  obtain ⟨a, ns, rfl, hS, h63, q⟩ := h
  refine ⟨_, (pss_cons (ps_set (i := 1) sc__law_tops.nd rfl (.inl rfl) (C8.pe_c c__law_at hr (Nat.le_refl _) (by rfl) (pa_cons (pv 0) (pa_cons pe_int pa_nil))))
    (pss_cons (ps_set (i := 2) sc__law_tops.nd rfl (.inl rfl) (pe_ix (kIxL (K := K) rfl) (pe_lst (pa_cons pe_int (pa_cons pe_int (pa_cons pe_int (pa_cons pe_int pa_nil))))) (pe_op op_mod (pv 1) pe_int) (fun _ _ => rfl)))
    (pss_cons (ps_set (i := 3) sc__law_tops.nd rfl (.inr rfl) (pe_ix (kIxL (K := K) rfl) (pe_lst (pa_cons pe_int (pa_cons pe_int (pa_cons pe_int pa_nil)))) (pe_op op_sub (pv 2) pe_int) (fun _ _ => rfl)))
    (pss_cons (ps_setLc (i := 4) (own := [("_law_k", 5)]) rfl sc__law_tops.nd rfl rfl (sw_true rfl rfl rfl (by decide +kernel)) (pi_range1 (by rfl) B.range (pa_cons (pv 2) pa_nil)) (blkOk_by (own := [("_law_k", 5)]) (N := ["_law_script", "_law_cell", "_law_many", "_law_most", "_law_found", "_law_k"]) (sc := defScope s__law_tops) (by decide +kernel)) (fun _ _ _ _ _ => (pgN (i := 5) sc__law_tops.nd rfl (.inl rfl) (.inr rfl))) (fun _ _ _ _ _ => pts_nil) (fun _ _ _ _ _ => (pe_op op_mod (C8.pe_c c__law_at hr (Nat.le_refl _) (by rfl) (pa_cons (pv 0) (pa_cons (pe_op op_add pe_int (pv 5)) pa_nil))) (pv 3))))
    (pss_cons (ps_if (pt_cmpR op_eq (pe_op op_mod (pe_op op_fdiv (pv 1) pe_int) pe_int) pe_int (nomark _))
      (pss_one (ps_asg pe_int (pg_sub (pv 4) (pe_op op_mod (pe_op op_fdiv (pv 1) pe_int) (pv 2)) set_list)))
      pss_nil)
    (pss_one (ps_ret (pv 4)))))))), ?_⟩
  refine ⟨_, rfl, a, ns, 0, rfl, hS, h63, by omega, by omega, fun cell c0 c1 => ?_⟩
  refine ⟨by show 4 ≤ sizeLine; decide, fun L nL => ?_⟩
  obtain ⟨many, em, mm⟩ := atMem (xs := [1, 2, 2, 3]) (i := cell % 4) (by omega) (by show cell % 4 < ((4 : Nat) : Int); omega)
  have m0 : 1 ≤ many ∧ many ≤ 3 := by
    simp at mm
    omega
  have s1 : Same H (upd H L (.lst ([1, 2, 2, 3].map V.int))) := sameNew nL
  refine ⟨_, rfl, _, _, rfl, rfl, (show (0 : Int) < 4 by decide), _, _, _, _, rfl, rfl, .of upd_same, em, ?_⟩
  refine ⟨by show 3 ≤ sizeLine; decide, fun L2 nL2 => ?_⟩
  obtain ⟨most, em2, mm2⟩ := atMem (xs := [10, 4, 3]) (i := many - 1) (by omega) (by show many - 1 < ((3 : Nat) : Int); omega)
  have m1 : 1 ≤ most ∧ most ≤ 10 := by
    simp at mm2
    omega
  have s2 : Same H (upd (upd H L (.lst ([1, 2, 2, 3].map V.int))) L2 (.lst ([10, 4, 3].map V.int))) := Same.trans s1 (sameNew nL2)
  refine ⟨_, rfl, _, _, rfl, rfl, _, _, _, _, rfl, rfl, .of upd_same, em2, ?_⟩
  refine ⟨_, rfl, _, rfl, by omega, by omega, fun D nD => ?_⟩
  refine lc_it walk_range (Made (upd (upd H L (.lst ([1, 2, 2, 3].map V.int))) L2 (.lst ([10, 4, 3].map V.int))) D (RP fun _ i => 0 ≤ i ∧ i ≤ 9)) (made0 nD) (fun _ _ _ _ => trivial) (fun i x H1 H2 hi p y => ?_) (fun H1 p => ?_)
  · obtain ⟨rfl, rfl⟩ := y
    refine ⟨rfl, ?_⟩
    refine lcYes ?_
    refine ⟨_, rfl, _, rfl, _, _, rfl, rfl, a, ns, _, rfl, Same.seq p.same (Same.seq s2 hS), h63, by omega, by omega, fun z z0 z1 => ?_⟩
    refine ⟨_, rfl, _, _, rfl, rfl, (show (0 : Int) < most by omega), ?_⟩
    have e0 : 0 ≤ z % most := Int.emod_nonneg _ (by omega)
    have e1 : z % most < most := Int.emod_lt_of_pos _ (by omega)
    exact p.push nD (stRP _) (by omega) (Same.refl _) ⟨_, rfl, by omega, by omega⟩
  obtain ⟨tops, lt, eD, s3, wt⟩ := madeRP p
  have s4 := Same.trans s2 s3
  have nDH : H D = none := Same.free s2 nD
  have w1 : ∀ t ∈ tops, 0 ≤ t ∧ t ≤ 9 := fun t ht => by
    obtain ⟨j, hj⟩ := List.mem_iff_getElem?.mp ht
    exact wt j t hj
  refine ⟨_, rfl, _, _, rfl, rfl, ⟨(show (0 : Int) < 4 by decide), (show (4 : Int) < 1073741824 by decide)⟩, _, _, rfl, rfl, (show (0 : Int) < 16 by decide), rfl, _, rfl, ?_⟩
  refine yesDec (fun c => ?_) (fun c => ?_)
  · refine ⟨_, rfl, _, rfl, _, _, rfl, rfl, ⟨(show (0 : Int) < 64 by decide), (show (64 : Int) < 1073741824 by decide)⟩, _, rfl, _, _, rfl, rfl, (show (0 : Int) < many by omega), ?_⟩
    have e0 : 0 ≤ cell / 64 % many := Int.emod_nonneg _ (by omega)
    have e1 : cell / 64 % many < many := Int.emod_lt_of_pos _ (by omega)
    refine ⟨D, _, _, (cell / 64 % many).toNat, rfl, rfl, eD, ?_, ?_⟩
    · unfold ixN
      rw [if_pos e0, if_pos (by simp; omega)]
    refine ⟨_, rfl, q D _ (tops.set (cell / 64 % many).toNat 9) nDH (sameMut s4 nDH) ?_ ⟨by simp; omega, by simp; omega, fun t ht => ?_⟩⟩
    · rw [upd_same, List.map_set]
    · rcases List.mem_or_eq_of_mem_set ht with h | h
      · exact w1 t h
      · omega
  · exact ⟨_, rfl, q D _ tops nDH s4 eD ⟨by omega, by omega, w1⟩⟩
abbrev s__law_unit : Stmt := topS 42
theorem sc__law_unit : FnScope ["_law_many", "_law_box", "_law_number", "_law_more", "_law_numbers"] ["_law_many", "_law_box", "_law_number", "_law_more"] (defScope s__law_unit) := ⟨rfl, rfl, rfl, by decide +kernel, rfl, by decide +kernel, by decide +kernel⟩

def unitOf (many : Nat) (box : Nat) (number more : Int) : Sm := ((List.replicate many 0).set box number, more)
def spUnit (K : PySem.W.Frag) : Sp := fun vs H Q _ => ∃ (many : Nat) (bi number more : Int), vs = [.int (many : Int), .int bi, .int number, .int more] ∧ 0 ≤ bi ∧ bi < many ∧ many ≤ 3 ∧ ∀ H' v, Same H H' → SumIn K H' v (unitOf many bi.toNat number more) → Q v H'
theorem unitW {many box : Nat} {number more : Int} (h : -9 ≤ number ∧ number ≤ 9) (h' : -99 ≤ more ∧ more ≤ 99) : SumW many (unitOf many box number more) := by
  refine ⟨by simp [unitOf], fun n hn => ?_, h'.1, h'.2⟩
  rcases List.mem_or_eq_of_mem_set hn with h2 | h2
  · have := List.eq_of_mem_replicate h2
    omega
  · omega
theorem ok__law_unit {f : Addr} {fd : FuncData} {k : Nat} (F : Fun K "_law_unit" "_law_unit" s__law_unit f fd) (B : Bl mg) : FnOk P w K mg base CX0 (k + 1) f fd ["_law_many", "_law_box", "_law_number", "_law_more"] (spUnit K) := by
  refine F.ok sc__law_unit (fun vs H Q E h => ?_) (fun cdv A outer s H vs Q E hr h => ?_)
  · obtain ⟨many, bi, number, more, rfl, _⟩ := h
    rfl
  obtain ⟨many, bi, number, more, rfl, hb0, hb, hm, q⟩ := h
  refine ⟨_, (pss_cons (ps_set (i := 4) sc__law_unit.nd rfl (.inl rfl) (pe_op op_rep (pe_lst (pa_cons pe_int pa_nil)) (pv 0)))
    (pss_cons (ps_asg (pv 2) (pg_sub (pv 4) (pv 1) set_list))
    (pss_one (ps_ret (pe_tup (pa_cons (pe_callTy (kTup (K := K) rfl) (by rfl) B.tuple (by decide +kernel) (pa_cons (pv 4) pa_nil)) (pa_cons (pv 3) pa_nil))))))), ?_⟩
  have szl : (1000 : Nat) ≤ sizeLine := by decide
  refine ⟨by show 1 ≤ sizeLine; decide, fun L nL => ?_⟩
  refine ⟨_, rfl, _, _, _, rfl, rfl, upd_same, by omega, by omega, by simp; omega, fun D nD => ?_⟩
  have s1 : Same H (upd H L (.lst [.int 0])) := sameNew nL
  have nDH : H D = none := Same.free s1 nD
  have e1 : (List.replicate ((many : Int)).toNat [V.int 0]).flatten = (List.replicate many (0 : Int)).map V.int := by simp [List.map_replicate]
  rw [e1]
  refine ⟨_, rfl, _, rfl, _, rfl, D, _, _, bi.toNat, rfl, rfl, upd_same, ?_, ?_⟩
  · unfold ixN
    rw [if_pos hb0, if_pos (by simp; omega)]
  have s2 : Same H (upd (upd (upd H L (.lst [.int 0])) D (.lst ((List.replicate many (0 : Int)).map V.int))) D (.lst (((List.replicate many (0 : Int)).map V.int).set bi.toNat (.int number)))) := sameMut (Same.trans s1 (sameNew nD)) nDH
  refine ⟨_, rfl, _, _, rfl, .inl ⟨.of upd_same, fun T nT => ⟨_, rfl, by show 2 ≤ sizeLine; decide, fun U nU => ?_⟩⟩⟩
  refine q _ _ (Same.trans s2 (Same.trans (sameNew nT) (sameNew nU))) ⟨U, T, rfl, .of upd_same, tupS (sameNew nU) (.of ?_)⟩
  rw [upd_same]
  simp [unitOf, List.map_set]

end

end LW

namespace LW
open PySem PySem.Spec PyProof.Rows L2
local macro_rules | `(tactic| walk_at "go1") => `(tactic| first
  | refine ⟨_, rfl, ?_⟩
  | refine ⟨_, _, rfl, rfl, ?_⟩
  | refine ⟨show (0 : Int) < _ from by omega, ?_⟩
  | refine ⟨show CMul _ _ from by first | exact .inl ⟨by omega, by omega⟩ | exact .inr ⟨by omega, by omega⟩, ?_⟩
  | refine ⟨show CDiv _ _ from ⟨by omega, by omega⟩, ?_⟩)
local macro_rules | `(tactic| walk_at "go") => `(tactic| repeat walk_at "go1")

section
variable {P : Program} {w : World} {K : PySem.W.Frag} {mg : Str → Option Value} {base : Heap}

abbrev s__law_word : Stmt := topS 43
theorem sc__law_word : FnScope ["_law_cell", "_law_many", "_law_way", "_law_box", "_law_more", "_law_numbers", "_law_k"] ["_law_cell", "_law_many"] (defScope s__law_word) := ⟨rfl, rfl, rfl, by decide +kernel, rfl, by decide +kernel, by decide +kernel⟩

def spWord (K : PySem.W.Frag) : Sp := fun vs H Q _ => ∃ (cell : Int) (many : Nat), vs = [.int cell, .int (many : Int)] ∧ 0 ≤ cell ∧ 1 ≤ many ∧ many ≤ 3 ∧ ∀ H' v s, Same H H' → SumIn K H' v s → SumW many s → Q v H'
theorem ok__law_word {f : Addr} {fd : FuncData} {k : Nat} (F : Fun K "_law_word" "_law_word" s__law_word f fd) (B : Bl mg) (c__law_unit : C8.Cal P w K mg base k "_law_unit" (spUnit K) []) : FnOk P w K mg base CX0 (k + 1) f fd ["_law_cell", "_law_many"] (spWord K) := by
  refine F.ok sc__law_word (fun vs H Q E h => ?_) (fun cdv A outer s H vs Q E hr h => ?_)
  · obtain ⟨cell, many, rfl, _⟩ := h
    rfl
  obtain ⟨cell, many, rfl, c0, hm1, hm, q⟩ := h
  refine ⟨_, (pss_cons (ps_set (i := 2) sc__law_word.nd rfl (.inl rfl) (pe_op op_mod (pv 0) pe_int))
    (pss_cons (ps_set (i := 3) sc__law_word.nd rfl (.inl rfl) (pe_op op_mod (pe_op op_fdiv (pv 0) pe_int) (pv 1)))
    (pss_cons (ps_set (i := 4) sc__law_word.nd rfl (.inl rfl) (pe_op op_mod (pe_op op_fdiv (pv 0) pe_int) pe_int))
    (pss_cons (ps_if (pt_cmpR op_lt (pv 2) pe_int (nomark _))
      (pss_one (ps_ret (C8.pe_c c__law_unit hr (Nat.le_refl _) (by rfl) (pa_cons (pv 1) (pa_cons (pv 3) (pa_cons pe_int (pa_cons (pe_un un_neg (pv 4)) pa_nil)))))))
      pss_nil)
    (pss_cons (ps_if (pt_cmpR op_lt (pv 2) pe_int (nomark _))
      (pss_one (ps_ret (C8.pe_c c__law_unit hr (Nat.le_refl _) (by rfl) (pa_cons (pv 1) (pa_cons (pv 3) (pa_cons (pe_un un_neg pe_int) (pa_cons (pv 4) pa_nil)))))))
      pss_nil)
    (C8.pss_cut (ps_if (PW.pt (pw_and (pt_cmpR op_eq (pv 2) pe_int (nomark _)) (pw_and1 (pt_cmpR op_gt (pv 1) pe_int (nomark _)))))
      (pss_cons (ps_set (i := 5) sc__law_word.nd rfl (.inl rfl) (pe_callTy (kList (K := K) rfl) (by rfl) B.list (by decide +kernel) (pa_cons (pe_ix (kIxT (K := K) rfl) (C8.pe_c c__law_unit hr (Nat.le_refl _) (by rfl) (pa_cons (pv 1) (pa_cons (pv 3) (pa_cons pe_int (pa_cons pe_int pa_nil))))) pe_int (fun _ _ => rfl)) pa_nil)))
      (pss_cons (ps_asg (pe_un un_neg pe_int) (pg_sub (pv 5) (pe_op op_mod (pe_op op_add (pv 3) pe_int) (pv 1)) set_list))
      (pss_one (ps_ret (pe_tup (pa_cons (pe_callTy (kTup (K := K) rfl) (by rfl) B.tuple (by decide +kernel) (pa_cons (pv 5) pa_nil)) (pa_cons (pe_op op_sub (pe_op op_mod (pe_op op_fdiv (pv 0) pe_int) pe_int) pe_int) pa_nil)))))))
      pss_nil)
    (pss_cons (ps_if (pt_cmpR op_gt (pe_op op_mod (pe_op op_fdiv (pv 0) pe_int) pe_int) pe_int (nomark _))
      (pss_one (ps_ret (pe_tup (pa_cons (pe_callTy (kTup (K := K) rfl) (by rfl) B.tuple (by decide +kernel) (pa_cons (pe_lc (own := [("_law_k", 6)]) rfl sc__law_word.nd (pi_range1 (by rfl) B.range (pa_cons (pv 1) pa_nil)) (blkOk_by (own := [("_law_k", 6)]) (N := ["_law_cell", "_law_many", "_law_way", "_law_box", "_law_more", "_law_numbers", "_law_k"]) (sc := defScope s__law_word) (by decide +kernel)) (fun _ _ _ _ _ => (pgN (i := 6) sc__law_word.nd rfl (.inl rfl) (.inr rfl))) (fun _ _ _ _ _ => pts_nil) (fun _ _ _ _ _ => (pe_op op_sub (pe_op op_mod (pe_op op_fdiv (pv 0) (pe_ix (kIxL (K := K) rfl) (pe_lst (pa_cons pe_int (pa_cons pe_int (pa_cons pe_int pa_nil)))) (pv 6) (fun _ _ => rfl))) pe_int) pe_int))) pa_nil)) (pa_cons (pe_op op_sub (pe_op op_mod (pe_op op_fdiv (pv 0) pe_int) pe_int) pe_int) pa_nil)))))
      pss_nil)
    (pss_one (ps_ret (pe_tup (pa_cons (pe_callTy (kTup (K := K) rfl) (by rfl) B.tuple (by decide +kernel) (pa_cons (pe_lc (own := [("_law_k", 6)]) rfl sc__law_word.nd (pi_range1 (by rfl) B.range (pa_cons (pv 1) pa_nil)) (blkOk_by (own := [("_law_k", 6)]) (N := ["_law_cell", "_law_many", "_law_way", "_law_box", "_law_more", "_law_numbers", "_law_k"]) (sc := defScope s__law_word) (by decide +kernel)) (fun _ _ _ _ _ => (pgN (i := 6) sc__law_word.nd rfl (.inl rfl) (.inr rfl))) (fun _ _ _ _ _ => pts_nil) (fun _ _ _ _ _ => (pe_op op_sub (pe_op op_mod (pe_op op_fdiv (pv 0) (pe_ix (kIxL (K := K) rfl) (pe_lst (pa_cons pe_int (pa_cons pe_int (pa_cons pe_int pa_nil)))) (pv 6) (fun _ _ => rfl))) pe_int) pe_int))) pa_nil)) (pa_cons (pe_op op_sub (pe_op op_mod (pe_op op_fdiv (pv 0) pe_int) pe_int) pe_int) pa_nil)))))))))))), ?_⟩
  have b0 : 0 ≤ cell / 6 % (many : Int) := Int.emod_nonneg _ (by omega)
  have b1 : cell / 6 % (many : Int) < many := Int.emod_lt_of_pos _ (by omega)
  have d0 : ∀ z : Int, CDiv z 6 ∧ CDiv z 18 ∧ CDiv z 90 ∧ CDiv z 2250 ∧ CDiv z 7 ∧ CDiv z 450 ∧ CDiv z 342 ∧ CDiv z 6498 := fun z => ⟨⟨by decide, by decide⟩, ⟨by decide, by decide⟩, ⟨by decide, by decide⟩, ⟨by decide, by decide⟩, ⟨by decide, by decide⟩, ⟨by decide, by decide⟩, ⟨by decide, by decide⟩, ⟨by decide, by decide⟩⟩
  refine ⟨_, rfl, _, _, rfl, rfl, (show (0 : Int) < 6 by decide), ?_⟩
  refine ⟨_, rfl, _, _, rfl, rfl, (d0 _).1, _, rfl, _, _, rfl, rfl, (show (0 : Int) < (many : Int) by omega), ?_⟩
  refine ⟨_, rfl, _, _, rfl, rfl, (d0 _).2.1, _, _, rfl, rfl, (show (0 : Int) < 5 by decide), ?_⟩
  have u0 : 0 ≤ cell / 18 % 5 := by omega
  have u1 : cell / 18 % 5 < 5 := by omega
  refine ⟨_, rfl, _, _, rfl, rfl, _, rfl, ?_⟩
  refine yesDec (fun c => ?_) (fun c => ?_)
  · exact ⟨_, rfl, _, rfl, _, rfl, _, rfl, many, _, 1, _, rfl, b0, b1, hm, fun H' v sm hs => q H' v _ sm hs (unitW (by omega) (by omega))⟩
  refine ⟨_, rfl, _, _, rfl, rfl, _, rfl, ?_⟩
  refine yesDec (fun c => ?_) (fun c => ?_)
  · exact ⟨_, rfl, _, rfl, _, rfl, _, rfl, many, _, -1, _, rfl, b0, b1, hm, fun H' v sm hs => q H' v _ sm hs (unitW (by omega) (by omega))⟩
  refine ⟨fun σ' H' => H' = H ∧ σ' = [some (.int cell), some (.int (many : Int)), some (.int (cell % 6)), some (.int (cell / 6 % (many : Int))), some (.int (cell / 18 % 5)), none, none], ?_, ?_⟩
  · refine ⟨_, rfl, rfl, _, rfl, ?_⟩
    refine yesDec (fun c => ?_) (fun c => ?_)
    · refine ⟨_, rfl, _, _, rfl, rfl, _, rfl, ?_⟩
      refine yesDec (fun c2 => ?_) (fun c2 => ?_)
      · refine ⟨_, rfl, _, rfl, many, _, 1, 0, rfl, b0, b1, hm, fun H1 v s1 hs => ?_⟩
        obtain ⟨U, T, rfl, o1, o2⟩ := hs
        refine ⟨_, _, _, _, rfl, rfl, o1, atI_nat (j := 0) rfl, _, _, rfl, .inr o2, fun L nL => ?_⟩
        have nLH : H L = none := Same.free s1 nL
        have g0 : 0 ≤ (cell / 6 % (many : Int) + 1) % (many : Int) := Int.emod_nonneg _ (by omega)
        have g1 : (cell / 6 % (many : Int) + 1) % (many : Int) < many := Int.emod_lt_of_pos _ (by omega)
        refine ⟨_, rfl, _, rfl, _, rfl, _, _, rfl, rfl, _, rfl, _, _, rfl, rfl, (show (0 : Int) < (many : Int) by omega), L, _, _, ((cell / 6 % (many : Int) + 1) % (many : Int)).toNat, rfl, rfl, upd_same, ?_, ?_⟩
        · have hlen : ((unitOf many (cell / 6 % (many : Int)).toNat 1 0).1.map V.int).length = many := by simp [unitOf]
          unfold ixN
          rw [hlen, if_pos g0, if_pos g1]
        refine ⟨_, rfl, _, _, rfl, .inl ⟨.of upd_same, fun T2 nT2 => ⟨_, rfl, _, _, rfl, rfl, (d0 _).2.2.1, _, _, rfl, rfl, (show (0 : Int) < 5 by decide), _, _, rfl, rfl, by show 2 ≤ sizeLine; decide, fun U2 nU2 => ?_⟩⟩⟩
        refine q _ _ ((unitOf many (cell / 6 % (many : Int)).toNat 1 0).1.set ((cell / 6 % (many : Int) + 1) % (many : Int)).toNat (-1), cell / 90 % 5 - 2) (Same.trans (sameMut (Same.trans s1 (sameNew nL)) nLH) (Same.trans (sameNew nT2) (sameNew nU2))) ⟨U2, T2, rfl, .of upd_same, tupS (sameNew nU2) (.of ?_)⟩ ⟨by simp [unitOf], fun n hn => ?_, by omega, by omega⟩
        · rw [upd_same, List.map_set]
        · rcases List.mem_or_eq_of_mem_set hn with h2 | h2
          · exact (unitW (many := many) (box := (cell / 6 % (many : Int)).toNat) (number := 1) (more := 0) (by omega) (by omega)).2.1 n h2
          · omega
      · exact ⟨rfl, rfl⟩
    · exact ⟨rfl, rfl⟩
  · rintro σ' H' ⟨rfl, rfl⟩
    have szl : (1000 : Nat) ≤ sizeLine := by decide
    refine ⟨_, rfl, _, _, rfl, rfl, (d0 _).2.2.1, _, _, rfl, rfl, (show (0 : Int) < 4 by decide), _, _, rfl, rfl, _, rfl, ?_⟩
    refine yesDec (fun c3 => ?_) (fun c3 => ?_)
    · refine ⟨_, rfl, _, rfl, by omega, by omega, fun D nD => ?_⟩
      refine lc_it walk_range (Made H' D (RP fun _ i => -9 ≤ i ∧ i ≤ 9)) (made0 nD) (fun _ _ _ _ => trivial) (fun i x H1 H2 hi p y => ?_) (fun H1 p => ?_)
      · obtain ⟨rfl, rfl⟩ := y
        refine ⟨rfl, ?_⟩
        refine lcYes ?_
        obtain ⟨z, ez, mz⟩ := atMem (xs := [18, 90, 450]) (i := 0 + (i : Int)) (by omega) (by show 0 + (i : Int) < ((3 : Nat) : Int); omega)
        have hz : 18 ≤ z ∧ z ≤ 450 := by
          simp at mz
          omega
        refine ⟨_, rfl, by show 3 ≤ sizeLine; decide, fun L nL => ⟨_, rfl, _, _, _, _, rfl, rfl, .of upd_same, ez, _, _, rfl, rfl, ⟨by omega, by omega⟩, _, _, rfl, rfl, (show (0 : Int) < 5 by decide), _, _, rfl, rfl, ?_⟩⟩
        exact p.push nD (stRP _) (by omega) (sameNew nL) ⟨_, rfl, by omega, by omega⟩
      · obtain ⟨ns, ln, eD, s3, wn⟩ := madeRP p
        refine ⟨_, _, rfl, .inl ⟨.of eD, fun T nT => ⟨_, rfl, _, _, rfl, rfl, (d0 _).2.2.2.1, _, _, rfl, rfl, (show (0 : Int) < 13 by decide), _, _, rfl, rfl, by show 2 ≤ sizeLine; decide, fun U nU => ?_⟩⟩⟩
        refine q _ _ (ns, cell / 2250 % 13 - 6) (Same.trans s3 (Same.trans (sameNew nT) (sameNew nU))) ⟨U, T, rfl, .of upd_same, tupS (sameNew nU) (.of upd_same)⟩ ⟨by show ns.length = many; omega, fun n hn => ?_, by show -99 ≤ cell / 2250 % 13 - 6; omega, by show cell / 2250 % 13 - 6 ≤ 99; omega⟩
        obtain ⟨j, hj⟩ := List.mem_iff_getElem?.mp hn
        exact wn j n hj
    · refine ⟨_, rfl, _, rfl, by omega, by omega, fun D nD => ?_⟩
      refine lc_it walk_range (Made H' D (RP fun _ i => -9 ≤ i ∧ i ≤ 9)) (made0 nD) (fun _ _ _ _ => trivial) (fun i x H1 H2 hi p y => ?_) (fun H1 p => ?_)
      · obtain ⟨rfl, rfl⟩ := y
        refine ⟨rfl, ?_⟩
        refine lcYes ?_
        obtain ⟨z, ez, mz⟩ := atMem (xs := [18, 342, 6498]) (i := 0 + (i : Int)) (by omega) (by show 0 + (i : Int) < ((3 : Nat) : Int); omega)
        have hz : 18 ≤ z ∧ z ≤ 6498 := by
          simp at mz
          omega
        refine ⟨_, rfl, by show 3 ≤ sizeLine; decide, fun L nL => ⟨_, rfl, _, _, _, _, rfl, rfl, .of upd_same, ez, _, _, rfl, rfl, ⟨by omega, by omega⟩, _, _, rfl, rfl, (show (0 : Int) < 19 by decide), _, _, rfl, rfl, ?_⟩⟩
        exact p.push nD (stRP _) (by omega) (sameNew nL) ⟨_, rfl, by omega, by omega⟩
      · obtain ⟨ns, ln, eD, s3, wn⟩ := madeRP p
        refine ⟨_, _, rfl, .inl ⟨.of eD, fun T nT => ⟨_, rfl, _, _, rfl, rfl, (d0 _).2.2.2.2.1, _, _, rfl, rfl, (show (0 : Int) < 199 by decide), _, _, rfl, rfl, by show 2 ≤ sizeLine; decide, fun U nU => ?_⟩⟩⟩
        refine q _ _ (ns, cell / 7 % 199 - 99) (Same.trans s3 (Same.trans (sameNew nT) (sameNew nU))) ⟨U, T, rfl, .of upd_same, tupS (sameNew nU) (.of upd_same)⟩ ⟨by show ns.length = many; omega, fun n hn => ?_, by show -99 ≤ cell / 7 % 199 - 99; omega, by show cell / 7 % 199 - 99 ≤ 99; omega⟩
        obtain ⟨j, hj⟩ := List.mem_iff_getElem?.mp hn
        exact wn j n hj
abbrev s__law_into : Stmt := topS 44
theorem sc__law_into : FnScope ["_law_cell", "_law_many", "_law_box", "_law_way"] ["_law_cell", "_law_many", "_law_box"] (defScope s__law_into) := ⟨rfl, rfl, rfl, by decide +kernel, rfl, by decide +kernel, by decide +kernel⟩

def spInto (K : PySem.W.Frag) : Sp := fun vs H Q _ => ∃ (cell : Int) (many : Nat) (box : Int), vs = [.int cell, .int (many : Int), .int box] ∧ 0 ≤ cell ∧ 0 ≤ box ∧ box < many ∧ many ≤ 3 ∧ ∀ H' v s, Same H H' → SumIn K H' v s → SumW many s → Q v H'
theorem ok__law_into {f : Addr} {fd : FuncData} {k : Nat} (F : Fun K "_law_into" "_law_into" s__law_into f fd) (B : Bl mg) (c__law_unit : C8.Cal P w K mg base k "_law_unit" (spUnit K) []) (c__law_word : C8.Cal P w K mg base k "_law_word" (spWord K) []) : FnOk P w K mg base CX0 (k + 1) f fd ["_law_cell", "_law_many", "_law_box"] (spInto K) := by
  refine F.ok sc__law_into (fun vs H Q E h => ?_) (fun cdv A outer s H vs Q E hr h => ?_)
  · obtain ⟨cell, many, box, rfl, _⟩ := h
    rfl
  obtain ⟨cell, many, box, rfl, c0, hb0, hb, hm, q⟩ := h
  refine ⟨_, (pss_cons (ps_set (i := 3) sc__law_into.nd rfl (.inl rfl) (pe_op op_mod (pv 0) pe_int))
    (pss_cons (ps_if (pt_cmpR op_lt (pv 3) pe_int (nomark _))
      (pss_one (ps_ret (C8.pe_c c__law_unit hr (Nat.le_refl _) (by rfl) (pa_cons (pv 1) (pa_cons (pv 2) (pa_cons pe_int (pa_cons (pe_ix (kIxL (K := K) rfl) (pe_lst (pa_cons pe_int (pa_cons pe_int (pa_cons (pe_un un_neg pe_int) pa_nil)))) (pv 3) (fun _ _ => rfl)) pa_nil)))))))
      pss_nil)
    (pss_cons (ps_if (pt_cmpR op_eq (pv 3) pe_int (nomark _))
      (pss_one (ps_ret (C8.pe_c c__law_unit hr (Nat.le_refl _) (by rfl) (pa_cons (pv 1) (pa_cons (pv 2) (pa_cons pe_int (pa_cons (pe_op op_mod (pe_op op_fdiv (pv 0) pe_int) pe_int) pa_nil)))))))
      pss_nil)
    (pss_cons (ps_if (pt_cmpR op_eq (pv 3) pe_int (nomark _))
      (pss_one (ps_ret (C8.pe_c c__law_unit hr (Nat.le_refl _) (by rfl) (pa_cons (pv 1) (pa_cons (pe_op op_mod (pe_op op_fdiv (pv 0) pe_int) (pv 1)) (pa_cons pe_int (pa_cons (pe_op op_sub (pe_op op_mod (pe_op op_fdiv (pv 0) pe_int) pe_int) pe_int) pa_nil)))))))
      pss_nil)
    (pss_one (ps_ret (C8.pe_c c__law_word hr (Nat.le_refl _) (by rfl) (pa_cons (pe_op op_fdiv (pv 0) pe_int) (pa_cons (pv 1) pa_nil))))))))), ?_⟩
  have d7 : ∀ z : Int, CDiv z 7 ∧ CDiv z 21 := fun z => ⟨⟨by decide, by decide⟩, ⟨by decide, by decide⟩⟩
  refine ⟨_, rfl, _, _, rfl, rfl, (show (0 : Int) < 7 by decide), ?_⟩
  refine ⟨_, rfl, _, _, rfl, rfl, _, rfl, ?_⟩
  refine yesDec (fun c => ?_) (fun c => ?_)
  · obtain ⟨z, ez, mz⟩ := atMem (xs := [1, 1, -1]) (i := cell % 7) (by omega) (by show cell % 7 < ((3 : Nat) : Int); omega)
    have hz : -1 ≤ z ∧ z ≤ 1 := by
      simp at mz
      omega
    exact ⟨_, rfl, _, rfl, _, rfl, by show 3 ≤ sizeLine; decide, fun L nL => ⟨_, rfl, _, _, _, _, rfl, rfl, .of upd_same, ez, many, box, 1, z, rfl, hb0, hb, hm, fun H' v sm hs => q H' v _ (Same.trans (sameNew nL) sm) hs (unitW (by omega) (by omega))⟩⟩
  refine ⟨_, rfl, rfl, _, rfl, ?_⟩
  refine yesDec (fun c => ?_) (fun c => ?_)
  · exact ⟨_, rfl, _, rfl, _, rfl, _, _, rfl, rfl, (d7 _).1, _, _, rfl, rfl, (show (0 : Int) < 5 by decide), many, box, 0, _, rfl, hb0, hb, hm, fun H' v sm hs => q H' v _ sm hs (unitW (by omega) (by omega))⟩
  refine ⟨_, rfl, rfl, _, rfl, ?_⟩
  refine yesDec (fun c => ?_) (fun c => ?_)
  · have b0 : 0 ≤ cell / 7 % (many : Int) := Int.emod_nonneg _ (by omega)
    have b1 : cell / 7 % (many : Int) < many := Int.emod_lt_of_pos _ (by omega)
    exact ⟨_, rfl, _, rfl, _, _, rfl, rfl, (d7 _).1, _, rfl, _, _, rfl, rfl, (show (0 : Int) < (many : Int) by omega), _, rfl, _, _, rfl, rfl, (d7 _).2, _, _, rfl, rfl, (show (0 : Int) < 3 by decide), _, _, rfl, rfl, many, _, 1, _, rfl, b0, b1, hm, fun H' v sm hs => q H' v _ sm hs (unitW (by omega) (by omega))⟩
  exact ⟨_, rfl, _, _, rfl, rfl, (d7 _).1, _, rfl, _, many, rfl, by omega, by omega, hm, fun H' v s sm hs hw => q H' v s sm hs hw⟩

end

end LW

namespace LW
open PySem PySem.Spec PyProof.Rows L2
local macro_rules | `(tactic| walk_at "go1") => `(tactic| first
  | refine ⟨_, rfl, ?_⟩
  | refine ⟨_, _, rfl, rfl, ?_⟩
  | refine ⟨show (0 : Int) < _ from by omega, ?_⟩
  | refine ⟨show CMul _ _ from by first | exact .inl ⟨by omega, by omega⟩ | exact .inr ⟨by omega, by omega⟩, ?_⟩
  | refine ⟨show CDiv _ _ from ⟨by omega, by omega⟩, ?_⟩)
local macro_rules | `(tactic| walk_at "go") => `(tactic| repeat walk_at "go1")

section
variable {P : Program} {w : World} {K : PySem.W.Frag} {mg : Str → Option Value} {base : Heap}

def spGRow (K : PySem.W.Frag) (deep : Nat) : Sp := fun vs H Q _ => ∃ (ds sc tp : Addr) (script tops : List Int) (p l : Int), vs = [.ref ds, .int (deep : Int)] ∧ Stt K H ds sc tp script tops p l ∧ 1 ≤ l ∧ 0 ≤ p ∧ p + 2 * l ≤ 60 ∧ l ≤ 30 ∧
  ∀ (H' : Hp) (v : V) (row : D) (p' l' : Int), But ds H H' → Stt K H' ds sc tp script tops p' l' → Din K H' v row → GRow tops.length deep row → ((cntRow deep row : Nat) : Int) ≤ l - l' → -1 ≤ l' → 0 ≤ p' → p' + 2 * l' ≤ p + 2 * l → Q v H'
def spGRows (K : PySem.W.Frag) (i : Nat) : Sp := fun vs H Q _ => ∃ (ds sc tp : Addr) (script tops : List Int) (p l di most : Int), vs = [.ref ds, .int di, .int most] ∧ di + 1 = (i : Int) ∧ 1 ≤ i ∧ Stt K H ds sc tp script tops p l ∧ -1 ≤ l ∧ 0 ≤ p ∧ p + 2 * l ≤ 60 ∧ l ≤ 30 ∧ 0 ≤ most ∧ most ≤ 100 ∧
  ∀ (H' : Hp) (v : V) (rows : List D) (p' l' : Int), But ds H H' → Stt K H' ds sc tp script tops p' l' → Din K H' v (.tup rows) → (∀ d ∈ rows, GRow tops.length (i - 1) d) → ((cnt i (.tup rows) : Nat) : Int) ≤ l - l' → -1 ≤ l' → 0 ≤ p' → p' + 2 * l' ≤ p + 2 * l → Q v H'
abbrev s__law_rows : Stmt := topS 46
theorem sc__law_rows : FnScope ["_law_state", "_law_deep", "_law_most", "_law_rows_here", "_law_k"] ["_law_state", "_law_deep", "_law_most"] (defScope s__law_rows) := ⟨rfl, rfl, rfl, by decide +kernel, rfl, by decide +kernel, by decide +kernel⟩

theorem ok__law_rows {f : Addr} {fd : FuncData} {k deep : Nat} (F : Fun K "_law_rows" "_law_rows" s__law_rows f fd) (B : Bl mg) (c__law_row : C8.Cal P w K mg base k "_law_row" (spGRow K deep) []) : FnOk P w K mg base CX0 (k + 1) f fd ["_law_state", "_law_deep", "_law_most"] (spGRows K (deep + 1)) := by
  refine F.ok sc__law_rows (fun vs H Q E h => ?_) (fun cdv A outer s H vs Q E hr h => ?_)
  · obtain ⟨ds, sc, tp, script, tops, p, l, di, most, rfl, _⟩ := h
    rfl
  obtain ⟨ds, sc, tp, script, tops, p, l, di, most, rfl, hdi, _, St, l0, p0, pl, l30, m0, m1, q⟩ := h
  have edi : di = (deep : Int) := by omega
  subst edi
  refine ⟨_, (pss_cons (ps_set (i := 3) sc__law_rows.nd rfl (.inl rfl) (pe_tup pa_nil))
    (pss_cons (ps_for PassesOwn.never rfl (pi_range1 (by rfl) B.range (pa_cons (pv 2) pa_nil)) (pg_name (i := 4) sc__law_rows.nd rfl (.inl rfl))
      (pss_one (ps_if (pt_cmpR op_gt (pe_dget (hu_of hr) (pv 0) pe_str (fun _ _ => rfl)) pe_int (nomark _))
        (pss_one (ps_set (i := 3) sc__law_rows.nd rfl (.inl rfl) (pe_op (kCatT (K := K) rfl) (pv 3) (pe_tup (pa_cons (C8.pe_c c__law_row hr (Nat.le_refl _) (by rfl) (pa_cons (pv 0) (pa_cons (pv 1) pa_nil))) pa_nil)))))
        pss_nil)))
    (pss_one (ps_ret (pv 3))))), ?_⟩
  refine ⟨by show 0 ≤ sizeLine; decide, fun T nT => ?_⟩
  refine ⟨_, rfl, _, rfl, by omega, by omega, ?_⟩
  refine for_range (lo := 0) (n := most.toNat) (fun i σ H' => ∃ (t : Addr) (vs : List V) (rows : List D) (y4 : Option V) (p' l' : Int), σ = [some (.ref ds), some (.int (deep : Int)), some (.int most), some (.ref t), y4] ∧ But ds H H' ∧ Stt K H' ds sc tp script tops p' l' ∧ SqT K H' t vs ∧ DinA K H' vs rows ∧
      (∀ d ∈ rows, GRow tops.length deep d) ∧ ((cnt (deep + 1) (.tup rows) : Nat) : Int) ≤ l - l' ∧ -1 ≤ l' ∧ 0 ≤ p' ∧ p' + 2 * l' ≤ p + 2 * l ∧ rows.length ≤ i)
    ⟨T, [], [], none, p, l, rfl, butOf (sameNew nT), St.same (sameNew nT), .of upd_same, .nil, fun d hd => by simp at hd, by simp [cnt], l0, p0, Int.le_refl _, Nat.le_refl _⟩ (fun i σ H' hi w => ?_) (fun σ H' w => ?_)
  · obtain ⟨t, vs, rows, y4, p', l', rfl, b, St1, ht, hA, hg, hc, l0', p0', pl', hlen⟩ := w
    refine ⟨_, rfl, ds, _, rfl, St1.gL, _, _, rfl, rfl, _, rfl, ?_⟩
    refine yesDec (fun c => ?_) (fun c => ?_)
    · refine ⟨_, rfl, _, rfl, _, rfl, ds, sc, tp, script, tops, p', l', rfl, St1, by omega, p0', by omega, by omega, fun H2 v row p2 l2 b2 St2 hd2 hg2 hc2 l20 p20 pl2 => ?_⟩
      have hp : ∀ d ∈ rows, d.pure = true := fun d hd => (hg d hd).2.1
      have ts := butTS b2 St1.d
      refine ⟨by show 1 ≤ sizeLine; decide, fun U nU => ?_⟩
      have ht3 := tupS (sameNew (o := .tup [v]) nU) (tsTup ts ht)
      have hA3 := dinASame (sameNew (o := .tup [v]) nU) (dinATS ts (pures_of hp) hA)
      have lA := hA.len
      refine catUse ht3 (.of upd_same) (by simp; omega) fun r H3 s3 hr3 => ?_
      refine ⟨r, vs ++ [v], rows ++ [row], some (.int (0 + (i : Int))), p2, l2, rfl, But.trans b (But.trans b2 (But.trans (butOf (sameNew nU)) (butOf s3))), (St2.same (sameNew nU)).same s3, hr3,
        dinApp (dinASame s3 hA3) (.cons (dinSame s3 (dinSame (sameNew nU) hd2)) .nil), fun d hd => ?_, ?_, l20, p20, by omega, by simp; omega⟩
      · rcases List.mem_append.mp hd with h | h
        · exact hg d h
        · have : d = row := by simpa using h
          subst this
          exact hg2
      · rw [cnt_tup] at hc ⊢
        rw [List.map_append, List.sum_append]
        simp
        omega
    · exact ⟨t, vs, rows, some (.int (0 + (i : Int))), p', l', rfl, b, St1, ht, hA, hg, hc, l0', p0', pl', by omega⟩
  · obtain ⟨t, vs, rows, y4, p', l', rfl, b, St1, ht, hA, hg, hc, l0', p0', pl', _⟩ := w
    exact ⟨_, rfl, q H' _ rows p' l' b St1 (.tup ht hA) hg hc l0' p0' pl'⟩
theorem decT {p : Prop} [Decidable p] {A B : Prop} (h : p) (a : A) : if decide p = true then A else B := by rw [decide_eq_true h]; exact iteT a
theorem orE {p r : Prop} [Decidable p] {A X : Prop} (h : p ∨ r) (hA : A) (hX : r → A → X) : if decide p = true then A else X := yesDec (fun _ => hA) (fun c => hX (h.resolve_left c) hA)
theorem andE {B X : Prop} (h : B → X) (b : B) : X := h b
abbrev s__law_row : Stmt := topS 45
theorem sc__law_row : FnScope ["_law_state", "_law_deep", "_law_cell", "_law_more", "_law_many", "_law_way", "_law_box", "_law_first", "_law_words", "_law_k", "_law_one", "_law_body", "_law_word_here"] ["_law_state", "_law_deep"] (defScope s__law_row) := ⟨rfl, rfl, rfl, by decide +kernel, rfl, by decide +kernel, by decide +kernel⟩

theorem ok__law_row {f : Addr} {fd : FuncData} {k deep : Nat} (F : Fun K "_law_row" "_law_row" s__law_row f fd) (B : Bl mg) (c__law_at : C8.Cal P w K mg base k "_law_at" (spAt K) []) (c__law_into : C8.Cal P w K mg base k "_law_into" (spInto K) []) (c__law_word : C8.Cal P w K mg base k "_law_word" (spWord K) [])
    (c__law_unit : C8.Cal P w K mg base k "_law_unit" (spUnit K) []) (c__law_rows : C8.Cal P w K mg base k "_law_rows" (spGRows K deep) []) : FnOk P w K mg base CX0 (k + 1) f fd ["_law_state", "_law_deep"] (spGRow K deep) := by
  refine F.ok sc__law_row (fun vs H Q E h => ?_) (fun cdv A outer s H vs Q E hr h => ?_)
  · obtain ⟨ds, sc, tp, script, tops, p, l, rfl, _⟩ := h
    rfl
  obtain ⟨ds, sc, tp, script, tops, p, l, rfl, St, l0, p0, pl, l30, q⟩ := h
  refine ⟨_, (pss_cons (ps_set (i := 2) sc__law_row.nd rfl (.inl rfl) (C8.pe_c c__law_at hr (Nat.le_refl _) (by rfl) (pa_cons (pe_dget (hu_of hr) (pv 0) pe_str (fun _ _ => rfl)) (pa_cons (pe_dget (hu_of hr) (pv 0) pe_str (fun _ _ => rfl)) pa_nil))))
    (pss_cons (ps_set (i := 3) sc__law_row.nd rfl (.inl rfl) (C8.pe_c c__law_at hr (Nat.le_refl _) (by rfl) (pa_cons (pe_dget (hu_of hr) (pv 0) pe_str (fun _ _ => rfl)) (pa_cons (pe_op op_add (pe_dget (hu_of hr) (pv 0) pe_str (fun _ _ => rfl)) pe_int) pa_nil))))
    (pss_cons (ps_set (i := 4) sc__law_row.nd rfl (.inl rfl) (pe_callB (kLen (K := K) rfl) (by rfl) B.len PySem.boot_len (pa_cons (pe_dget (hu_of hr) (pv 0) pe_str (fun _ _ => rfl)) pa_nil)))
    (pss_cons (ps_dput (hu_of hr) (pv 0) pe_str (pe_op op_add (pe_dget (hu_of hr) (pv 0) pe_str (fun _ _ => rfl)) pe_int) rfl)
    (pss_cons (ps_dput (hu_of hr) (pv 0) pe_str (pe_op op_sub (pe_dget (hu_of hr) (pv 0) pe_str (fun _ _ => rfl)) pe_int) rfl)
    (pss_cons (ps_set (i := 5) sc__law_row.nd rfl (.inl rfl) (pe_op op_mod (pv 2) pe_int))
    (pss_cons (ps_set (i := 6) sc__law_row.nd rfl (.inl rfl) (pe_op op_mod (pe_op op_fdiv (pv 2) pe_int) (pv 4)))
    (pss_cons (ps_if (PW.pt (pw_or (pt_cmpR op_lt (pv 5) pe_int (nomark _)) (pw_or1 (PW.pt (pw_and (pt_cmpR op_eq (pv 1) pe_int (nomark _)) (pw_and1 (pt_cmpR op_gt (pv 5) pe_int (nomark _))))))))
      (pss_one (ps_ret (pe_tup (pa_cons pe_str (pa_cons (pv 6) (pa_cons (C8.pe_c c__law_into hr (Nat.le_refl _) (by rfl) (pa_cons (pv 3) (pa_cons (pv 4) (pa_cons (pv 6) pa_nil)))) pa_nil))))))
      pss_nil)
    (pss_cons (ps_if (pt_cmpR op_lt (pv 5) pe_int (nomark _))
      (pss_one (ps_ret (pe_tup (pa_cons pe_str (pa_cons (C8.pe_c c__law_word hr (Nat.le_refl _) (by rfl) (pa_cons (pv 3) (pa_cons (pv 4) pa_nil))) pa_nil)))))
      pss_nil)
    (pss_cons (ps_if (pt_cmpR op_lt (pv 5) pe_int (nomark _))
      (pss_cons (ps_set (i := 7) sc__law_row.nd rfl (.inl rfl) (C8.pe_c c__law_rows hr (Nat.le_refl _) (by rfl) (pa_cons (pv 0) (pa_cons (pe_op op_sub (pv 1) pe_int) (pa_cons (pe_op op_mod (pe_op op_fdiv (pv 2) pe_int) pe_int) pa_nil)))))
      (pss_one (ps_ret (pe_tup (pa_cons pe_str (pa_cons (C8.pe_c c__law_word hr (Nat.le_refl _) (by rfl) (pa_cons (pv 3) (pa_cons (pv 4) pa_nil))) (pa_cons (pv 7) (pa_cons (C8.pe_c c__law_rows hr (Nat.le_refl _) (by rfl) (pa_cons (pv 0) (pa_cons (pe_op op_sub (pv 1) pe_int) (pa_cons (pe_op op_mod (pe_op op_fdiv (pv 2) pe_int) pe_int) pa_nil)))) pa_nil))))))))
      pss_nil)
    (pss_cons (ps_dput (hu_of hr) (pv 0) pe_str (pe_op op_sub (pe_dget (hu_of hr) (pv 0) pe_str (fun _ _ => rfl)) pe_int) rfl)
    (pss_cons (ps_set (i := 8) sc__law_row.nd rfl (.inl rfl) (pe_tup pa_nil))
    (pss_cons (ps_for PassesOwn.never rfl (pi_range1 (by rfl) B.range (pa_cons (pe_ix (kIxL (K := K) rfl) (pe_lst (pa_cons pe_int (pa_cons pe_int (pa_cons pe_int (pa_cons pe_int (pa_cons pe_int pa_nil)))))) (pe_op op_mod (pe_op op_fdiv (pv 2) pe_int) pe_int) (fun _ _ => rfl)) pa_nil)) (pg_name (i := 9) sc__law_row.nd rfl (.inl rfl))
      (pss_cons (ps_set (i := 10) sc__law_row.nd rfl (.inl rfl) (C8.pe_c c__law_at hr (Nat.le_refl _) (by rfl) (pa_cons (pe_dget (hu_of hr) (pv 0) pe_str (fun _ _ => rfl)) (pa_cons (pe_op op_add (pe_op op_add (pe_dget (hu_of hr) (pv 0) pe_str (fun _ _ => rfl)) pe_int) (pv 9)) pa_nil))))
      (pss_one (ps_set (i := 8) sc__law_row.nd rfl (.inl rfl) (pe_op (kCatT (K := K) rfl) (pv 8) (pe_tup (pa_cons (C8.pe_c c__law_word hr (Nat.le_refl _) (by rfl) (pa_cons (pv 10) (pa_cons (pv 4) pa_nil))) pa_nil)))))))
    (pss_cons (ps_set (i := 11) sc__law_row.nd rfl (.inl rfl) (pe_tup (pa_cons (pe_tup (pa_cons pe_str (pa_cons (pv 6) (pa_cons (C8.pe_c c__law_unit hr (Nat.le_refl _) (by rfl) (pa_cons (pv 4) (pa_cons (pv 6) (pa_cons pe_int (pa_cons pe_int pa_nil))))) pa_nil)))) pa_nil)))
    (C8.pss_cut (ps_if (pt_cmpR op_eq (pe_op op_mod (pe_op op_fdiv (pv 2) pe_int) pe_int) pe_int (nomark _))
      (pss_one (ps_set (i := 11) sc__law_row.nd rfl (.inl rfl) (pe_tup pa_nil)))
      pss_nil)
    (pss_cons (ps_set (i := 11) sc__law_row.nd rfl (.inl rfl) (pe_op (kCatT (K := K) rfl) (pv 11) (C8.pe_c c__law_rows hr (Nat.le_refl _) (by rfl) (pa_cons (pv 0) (pa_cons (pe_op op_sub (pv 1) pe_int) (pa_cons (pe_op op_mod (pe_op op_fdiv (pv 2) pe_int) pe_int) pa_nil))))))
    (pss_cons (ps_set (i := 12) sc__law_row.nd rfl (.inl rfl) (C8.pe_c c__law_unit hr (Nat.le_refl _) (by rfl) (pa_cons (pv 4) (pa_cons (pv 6) (pa_cons pe_int (pa_cons (pe_op op_sub pe_int (pe_ix (kIxL (K := K) rfl) (pe_dget (hu_of hr) (pv 0) pe_str (fun _ _ => rfl)) (pv 6) (fun _ _ => rfl))) pa_nil))))))
    (C8.pss_cut (ps_if (pt_cmpR op_eq (pe_op op_mod (pe_op op_fdiv (pv 2) pe_int) pe_int) pe_int (nomark _))
      (pss_one (ps_set (i := 12) sc__law_row.nd rfl (.inl rfl) (C8.pe_c c__law_word hr (Nat.le_refl _) (by rfl) (pa_cons (pv 3) (pa_cons (pv 4) pa_nil)))))
      pss_nil)
    (pss_one (ps_ret (pe_tup (pa_cons pe_str (pa_cons (pv 12) (pa_cons (pv 8) (pa_cons (pv 11) pa_nil))))))))))))))))))))))))), ?_⟩
  refine ⟨_, rfl, ds, _, rfl, St.gS, _, rfl, ds, _, rfl, St.gA, sc, script, p, rfl, St.s, St.s63, p0, by omega, fun cell c0 c1 => ?_⟩
  refine ⟨_, rfl, ds, _, rfl, St.gS, _, rfl, ds, _, rfl, St.gA, _, _, rfl, rfl, sc, script, p + 1, rfl, St.s, St.s63, by omega, by omega, fun more d0 d1 => ?_⟩
  refine ⟨_, rfl, ds, _, rfl, St.gT, _, _, rfl, .inl St.t, ?_⟩
  have em : (tops.map V.int).length = tops.length := List.length_map _
  have w1 := St.w.1
  have w3 := St.w.2.1
  generalize hM : (tops.map V.int).length = M at *
  have m1 : 1 ≤ M := by omega
  have m3 : M ≤ 3 := by omega
  rw [← em] at q
  -- the state
  refine ⟨_, rfl, ds, _, rfl, St.gA, _, _, rfl, rfl, _, rfl, ds, _, rfl, St.pA (p + 2), ?_⟩
  have St1 := St.setA (p + 2)
  have b1 : But ds H (upd H ds (.dK (stK sc tp (p + 2) l))) := butUpd
  generalize upd H ds (.dK (stK sc tp (p + 2) l)) = H1 at *
  refine ⟨_, rfl, ds, _, rfl, St1.gL, _, _, rfl, rfl, _, rfl, ds, _, rfl, St1.pL (l - 1), ?_⟩
  have St2 := St1.setL (l - 1)
  have b2 : But ds H (upd H1 ds (.dK (stK sc tp (p + 2) (l - 1)))) := But.trans b1 butUpd
  generalize upd H1 ds (.dK (stK sc tp (p + 2) (l - 1))) = H2 at *
  clear St1 b1 St
  have dv : ∀ z : Int, CDiv z 9 ∧ CDiv z 27 ∧ CDiv z 81 ∧ CDiv z 405 ∧ CDiv z 3240 := fun z => ⟨⟨by decide, by decide⟩, ⟨by decide, by decide⟩, ⟨by decide, by decide⟩, ⟨by decide, by decide⟩, ⟨by decide, by decide⟩⟩
  have x0 : 0 ≤ cell / 9 % (M : Int) := Int.emod_nonneg _ (by omega)
  have x1 : cell / 9 % (M : Int) < M := Int.emod_lt_of_pos _ (by omega)
  refine ⟨_, rfl, _, _, rfl, rfl, (show (0 : Int) < 9 by decide), ?_⟩
  refine ⟨_, rfl, _, _, rfl, rfl, (dv _).1, _, rfl, _, _, rfl, rfl, (show (0 : Int) < (M : Int) by omega), ?_⟩
  refine ⟨_, rfl, _, _, rfl, rfl, _, rfl, ?_⟩
  by_cases hput : cell % 9 < 3 ∨ ((deep : Int) = 0 ∧ 4 < cell % 9)
  · refine orE hput ?_ (fun hr A => ⟨_, rfl, rfl, _, rfl, decT (intEq.mpr hr.1) ⟨_, rfl, _, _, rfl, rfl, _, rfl, decT hr.2 A⟩⟩)
    refine ⟨_, rfl, _, rfl, _, rfl, _, rfl, more, M, _, rfl, d0, x0, x1, m3, fun H3 v sm s3 hs hw => ⟨by show 3 ≤ sizeLine; decide, fun T nT => ?_⟩⟩
    refine q _ (.ref T) (.tup [.str "put", .int (cell / 9 % (M : Int)), dSm sm]) (p + 2) (l - 1) (But.trans b2 (But.trans (butOf s3) (butOf (sameNew nT)))) ((St2.same s3).same (sameNew nT)) (.tup (.of upd_same) (.cons (.str _) (.cons (.int _) (.cons (dinSame (sameNew nT) (dinSum hs)) .nil))))
      (put_row x0 x1 hw) ?_ (by omega) (by omega) (by omega)
    rw [cnt_put]
    omega
  have cc : ¬ cell % 9 < 3 ∧ (4 < cell % 9 → 1 ≤ deep) := by omega
  refine yesDec (fun c => absurd c cc.1) (fun _ => ?_)
  refine andE (fun B => ⟨_, rfl, rfl, _, rfl, yesDec (fun h => ⟨_, rfl, _, _, rfl, rfl, _, rfl, yesDec (fun h2 => absurd (.inr ⟨intEq.mp h, h2⟩) hput) (fun _ => B)⟩) (fun _ => B)⟩) ?_
  refine ⟨_, rfl, _, _, rfl, rfl, _, rfl, ?_⟩
  refine yesDec (fun c5 => ?_) (fun c5 => ?_)
  · refine ⟨_, rfl, _, rfl, more, M, rfl, d0, m1, m3, fun H3 v sm s3 hs hw => ⟨by show 2 ≤ sizeLine; decide, fun T nT => ?_⟩⟩
    refine q _ (.ref T) (.tup [.str "say", dSm sm]) (p + 2) (l - 1) (But.trans b2 (But.trans (butOf s3) (butOf (sameNew nT)))) ((St2.same s3).same (sameNew nT)) (.tup (.of upd_same) (.cons (.str _) (.cons (dinSame (sameNew nT) (dinSum hs)) .nil))) (say_row hw) ?_ (by omega) (by omega) (by omega)
    rw [cnt_say]
    omega
  have hdeep := cc.2 (by omega)
  obtain ⟨dp, rfl⟩ : ∃ dp, deep = dp + 1 := ⟨deep - 1, by omega⟩
  refine ⟨_, rfl, _, _, rfl, rfl, _, rfl, ?_⟩
  refine yesDec (fun c7 => ?_) (fun c7 => ?_)
  · -- an if
    refine ⟨_, rfl, _, rfl, _, _, rfl, rfl, _, rfl, _, _, rfl, rfl, (dv _).1, _, _, rfl, rfl, (show (0 : Int) < 3 by decide), ds, sc, tp, script, tops, p + 2, l - 1, _, _, rfl, by omega, by omega, St2, by omega, by omega, by omega, by omega, by omega, by omega,
      fun H3 v1 r1 p3 l3 b3 St3 hd1 hg1 hc1 l30' p30 pl3 => ?_⟩
    refine ⟨_, rfl, _, rfl, more, M, rfl, d0, m1, m3, fun H4 vw sw s4 hsw hww => ?_⟩
    have St4 := St3.same s4
    refine ⟨_, rfl, _, rfl, _, rfl, _, _, rfl, rfl, _, rfl, _, _, rfl, rfl, (dv _).2.1, _, _, rfl, rfl, (show (0 : Int) < 3 by decide), ds, sc, tp, script, tops, p3, l3, _, _, rfl, by omega, by omega, St4, by omega, by omega, by omega, by omega, by omega, by omega,
      fun H5 v2 r2 p5 l5 b5 St5 hd2 hg2 hc2 l50 p50 pl5 => ⟨by show 4 ≤ sizeLine; decide, fun T nT => ?_⟩⟩
    have ts := butTS b5 St4.d
    rw [← em] at hg1 hg2
    have e1 : dp + 1 - 1 = dp := by omega
    rw [e1] at hg1 hg2
    have pu1 := pures_of fun d hd => (hg1 d hd).2.1
    have pu2 := pures_of fun d hd => (hg2 d hd).2.1
    have hd1' := dinTS ts (by simpa [D.pure] using pu1) (dinSame s4 hd1)
    refine q _ (.ref T) (.tup [.str "if", dSm sw, .tup r1, .tup r2]) p5 l5 (But.trans b2 (But.trans b3 (But.trans (butOf s4) (But.trans b5 (butOf (sameNew nT)))))) (St5.same (sameNew nT))
      (.tup (.of upd_same) (.cons (.str _) (.cons (dinSame (sameNew nT) (dinSum (tsSum ts hsw))) (.cons (dinSame (sameNew nT) hd1') (.cons (dinSame (sameNew nT) hd2) .nil))))) (if_row hww (good_tup hg1) (good_tup hg2) pu1 pu2) ?_ (by omega) (by omega) (by omega)
    rw [cnt_if]
    omega
  -- a loop
  refine ⟨_, rfl, ds, _, rfl, St2.gL, _, _, rfl, rfl, _, rfl, ds, _, rfl, St2.pL (l - 1 - 1), ?_⟩
  have St3 := St2.setL (l - 1 - 1)
  have b3 : But ds H (upd H2 ds (.dK (stK sc tp (p + 2) (l - 1 - 1)))) := But.trans b2 butUpd
  generalize upd H2 ds (.dK (stK sc tp (p + 2) (l - 1 - 1))) = H3 at *
  clear St2 b2
  refine ⟨by show 0 ≤ sizeLine; decide, fun T0 nT0 => ?_⟩
  refine ⟨by show 5 ≤ sizeLine; decide, fun L nL => ?_⟩
  obtain ⟨z, ez, mz⟩ := atMem (xs := [0, 0, 1, 2, 3]) (i := cell / 81 % 5) (by omega) (by show cell / 81 % 5 < ((5 : Nat) : Int); omega)
  have hz : 0 ≤ z ∧ z ≤ 3 := by
    simp at mz
    omega
  have s4 : Same H3 (upd (upd H3 T0 (.tup [])) L (.lst ([0, 0, 1, 2, 3].map V.int))) := Same.trans (sameNew nT0) (sameNew nL)
  have ht0 : SqT K (upd (upd H3 T0 (.tup [])) L (.lst ([0, 0, 1, 2, 3].map V.int))) T0 [] := tupS (sameNew nL) (.of upd_same)
  refine ⟨_, rfl, _, _, rfl, rfl, (dv _).2.2.1, _, _, rfl, rfl, (show (0 : Int) < 5 by decide), _, _, _, _, rfl, rfl, .of upd_same, ez, z, rfl, by omega, by omega, ?_⟩
  have St4 := St3.same s4
  have b4 := But.trans b3 (butOf s4)
  have eL : upd (upd H3 T0 (.tup [])) L (.lst [.int 0, .int 0, .int 1, .int 2, .int 3]) = upd (upd H3 T0 (.tup [])) L (.lst ([0, 0, 1, 2, 3].map V.int)) := rfl
  rw [eL]
  generalize upd (upd H3 T0 (.tup [])) L (.lst ([0, 0, 1, 2, 3].map V.int)) = H4 at *
  clear s4 eL nL nT0 b3 St3
  refine for_range (lo := 0) (n := z.toNat) (fun i σ H' => ∃ (t : Addr) (vs : List V) (ws : List Sm) (y9 y10 : Option V), σ = [some (.ref ds), some (.int ((dp + 1 : Nat) : Int)), some (.int cell), some (.int more), some (.int (M : Int)), some (.int (cell % 9)), some (.int (cell / 9 % (M : Int))), none, some (.ref t), y9, y10, none, none] ∧
      Same H4 H' ∧ SqT K H' t vs ∧ DinA K H' vs (ws.map dSm) ∧ (∀ w ∈ ws, SumW M w) ∧ ws.length = i) ⟨T0, [], [], none, none, rfl, Same.refl _, ht0, .nil, fun w hw => by simp at hw, rfl⟩ (fun i σ H' hi w => ?_) (fun σ H5 w => ?_)
  · obtain ⟨t, vs, ws, y9, y10, rfl, sm, ht, hA, hws, hl⟩ := w
    have St5 := St4.same sm
    refine ⟨_, rfl, ds, _, rfl, St5.gS, _, rfl, ds, _, rfl, St5.gA, _, _, rfl, rfl, _, rfl, _, _, rfl, rfl, sc, script, _, rfl, St5.s, St5.s63, by omega, by omega, fun one o0 o1 => ?_⟩
    refine ⟨_, rfl, _, rfl, _, rfl, one, M, rfl, o0, m1, m3, fun H6 v sw s6 hsw hww => ⟨by show 1 ≤ sizeLine; decide, fun U nU => ?_⟩⟩
    have lA := hA.len
    refine catUse (tupS (Same.trans s6 (sameNew nU)) ht) (.of upd_same) (by simp at lA ⊢; omega) fun r H7 s7 hr7 => ?_
    refine ⟨r, vs ++ [v], ws ++ [sw], _, _, rfl, Same.trans sm (Same.trans s6 (Same.trans (sameNew nU) s7)), hr7, ?_, fun x hx => ?_, by simp [hl]⟩
    · rw [List.map_append]
      exact dinApp (dinASame (Same.trans s6 (Same.trans (sameNew nU) s7)) hA) (.cons (dinSame (Same.trans (sameNew nU) s7) (dinSum hsw)) .nil)
    · rcases List.mem_append.mp hx with h | h
      · exact hws x h
      · have : x = sw := by simpa using h
        subst this
        exact hww
  obtain ⟨t, vs, ws, y9, y10, rfl, sm, ht, hA, hws, hl⟩ := w
  have St5 := St4.same sm
  have b5 := But.trans b4 (butOf sm)
  clear sm b4 St4 ht0 ez mz
  -- the body: a put, or none
  refine ⟨_, rfl, _, rfl, _, rfl, M, _, 1, 1, rfl, x0, x1, m3, fun H6 v s6 hsb => ⟨by show 3 ≤ sizeLine; decide, fun U nU => ⟨by show 1 ≤ sizeLine; decide, fun W nW => ?_⟩⟩⟩
  have hsb' : SumIn K H6 v (unitOf M (cell / 9 % (M : Int)).toNat 1 1) := hsb
  have s7 : Same H5 (upd (upd H6 U (.tup [.str "put", .int (cell / 9 % (M : Int)), v])) W (.tup [.ref U])) := Same.trans s6 (Same.trans (sameNew nU) (sameNew nW))
  have hW : SqT K (upd (upd H6 U (.tup [.str "put", .int (cell / 9 % (M : Int)), v])) W (.tup [.ref U])) W [.ref U] := .of upd_same
  have hU : Din K (upd (upd H6 U (.tup [.str "put", .int (cell / 9 % (M : Int)), v])) W (.tup [.ref U])) (.ref U) (.tup [.str "put", .int (cell / 9 % (M : Int)), dSm (unitOf M (cell / 9 % (M : Int)).toNat 1 1)]) :=
    dinSame (sameNew nW) (.tup (.of upd_same) (.cons (.str _) (.cons (.int _) (.cons (dinSame (sameNew nU) (dinSum hsb')) .nil))))
  have St7 := St5.same s7
  have b7 := But.trans b5 (butOf s7)
  have ht7 := tupS s7 ht
  have hA7 := dinASame s7 hA
  generalize upd (upd H6 U (.tup [.str "put", .int (cell / 9 % (M : Int)), v])) W (.tup [.ref U]) = H7 at *
  clear s7 hsb' hsb s6 nU nW St5 b5 ht hA
  refine ⟨fun σ' H' => ∃ (bt : Addr) (bvs : List V) (brs : List D), σ' = [some (.ref ds), some (.int ((dp + 1 : Nat) : Int)), some (.int cell), some (.int more), some (.int (M : Int)), some (.int (cell % 9)), some (.int (cell / 9 % (M : Int))), none, some (.ref t), y9, y10, some (.ref bt), none] ∧
      Same H7 H' ∧ SqT K H' bt bvs ∧ DinA K H' bvs brs ∧ (∀ d ∈ brs, GRow M dp d) ∧ (brs.map (cntRow dp)).sum ≤ 1, ?_, ?_⟩
  · refine ⟨_, rfl, _, _, rfl, rfl, (dv _).2.2.2.1, _, _, rfl, rfl, (show (0 : Int) < 8 by decide), rfl, _, rfl, ?_⟩
    refine yesDec (fun c8 => ?_) (fun c8 => ?_)
    · exact ⟨by show 0 ≤ sizeLine; decide, fun Z nZ => ⟨Z, [], [], rfl, sameNew nZ, .of upd_same, .nil, fun d hd => by simp at hd, by simp⟩⟩
    · refine ⟨W, _, _, rfl, Same.refl _, hW, .cons hU .nil, fun d hd => ?_, ?_⟩
      · rw [List.mem_singleton.mp hd]
        exact put_row x0 x1 (unitW (by omega) (by omega))
      · simp [cnt_put]
  rintro σ' H8 ⟨bt, bvs, brs, rfl, s8, hbt, hbA, hbg, hbc⟩
  have St8 := St7.same s8
  refine ⟨_, rfl, _, rfl, _, rfl, _, _, rfl, rfl, _, rfl, _, _, rfl, rfl, (dv _).2.1, _, _, rfl, rfl, (show (0 : Int) < 3 by decide), ds, sc, tp, script, tops, p + 2, l - 1 - 1, _, _, rfl, by omega, by omega, St8, by omega, by omega, by omega, by omega, by omega, by omega,
    fun H9 v2 r2 p9 l9 b9 St9 hd2 hg2 hc2 l90 p90 pl9 => ?_⟩
  have ts := butTS b9 St8.d
  rw [← em] at hg2
  have e1 : dp + 1 - 1 = dp := by omega
  rw [e1] at hg2
  have puw : D.pures (ws.map dSm) = true := pures_of fun d hd => by
    obtain ⟨x, _, rfl⟩ := List.mem_map.mp hd
    exact pureSum x
  have pub := pures_of fun d hd => (hbg d hd).2.1
  have pu2 := pures_of fun d hd => (hg2 d hd).2.1
  have ht9 := tsTup ts (tupS s8 ht7)
  have hA9 := dinATS ts puw (dinASame s8 hA7)
  have hbt9 := tsTup ts hbt
  have hbA9 := dinATS ts pub hbA
  have b10 := But.trans b7 (But.trans (butOf s8) b9)
  cases hd2 with
  | @tup a2 xs2 _ h2 hA2 =>
    have lb := hbA.len
    have l2 := hA2.len
    have hb1 : brs.length ≤ 1 := by
      have : brs.length ≤ (brs.map (cntRow dp)).sum := by
        clear hbt hbA hbg hbc hbt9 hbA9 pub lb
        induction brs with
        | nil => simp
        | cons x r ih =>
          simp only [List.length_cons, List.map_cons, List.sum_cons, cntRow] at ih ⊢
          omega
      omega
    have hr2 : r2.length ≤ 40 := by
      rw [cnt_tup] at hc2
      have : r2.length ≤ (r2.map (cntRow dp)).sum := by
        clear hc2 hg2 pu2 l2 hA2
        induction r2 with
        | nil => simp
        | cons x r ih =>
          simp only [List.length_cons, List.map_cons, List.sum_cons, cntRow] at ih ⊢
          omega
      omega
    refine catUse hbt9 h2 (by omega) fun r H10 s10 hr10 => ?_
    have hbody := dinApp (dinASame s10 hbA9) (dinASame s10 hA2)
    have hgb : ∀ d ∈ brs ++ r2, GRow M dp d := fun d hd => (List.mem_append.mp hd).elim (hbg d) (hg2 d)
    have St10 := St9.same s10
    have b11 := But.trans b10 (butOf s10)
    -- the word
    obtain ⟨top, etop, mtop⟩ := atMem (xs := tops) (i := cell / 9 % (M : Int)) x0 (by omega)
    have wtop := St10.w.2.2 top mtop
    refine ⟨_, rfl, _, rfl, _, rfl, ds, _, rfl, St10.gT, _, rfl, _, _, _, _, rfl, rfl, St10.t, etop, _, _, rfl, rfl, M, _, 1, 1 - top, rfl, x0, x1, m3, fun H11 vw s11 hsw => ?_⟩
    have hww : SumW M (unitOf M (cell / 9 % (M : Int)).toNat 1 (1 - top)) := unitW (by omega) (by omega)
    refine ⟨fun σ' H' => ∃ (vw : V) (sw : Sm), σ' = [some (.ref ds), some (.int ((dp + 1 : Nat) : Int)), some (.int cell), some (.int more), some (.int (M : Int)), some (.int (cell % 9)), some (.int (cell / 9 % (M : Int))), none, some (.ref t), y9, y10, some (.ref r), some vw] ∧
      Same H10 H' ∧ SumIn K H' vw sw ∧ SumW M sw, ?_, ?_⟩
    · refine ⟨_, rfl, _, _, rfl, rfl, (dv _).2.2.2.2, _, _, rfl, rfl, (show (0 : Int) < 6 by decide), rfl, _, rfl, ?_⟩
      refine yesDec (fun c9 => ?_) (fun c9 => ?_)
      · exact ⟨_, rfl, _, rfl, more, M, rfl, d0, m1, m3, fun H12 v3 s3 s12 hs3 hw3 => ⟨v3, s3, rfl, Same.trans s11 s12, hs3, hw3⟩⟩
      · exact ⟨vw, _, rfl, s11, hsw, hww⟩
    rintro σ' H12 ⟨vw2, sw2, rfl, s12, hs12, hw12⟩
    refine ⟨_, rfl, _, rfl, _, rfl, by show 4 ≤ sizeLine; decide, fun T nT => ?_⟩
    have s13 := Same.trans s12 (sameNew (o := .tup [.str "loop", vw2, .ref t, .ref r]) nT)
    refine q _ (.ref T) (.tup [.str "loop", dSm sw2, .tup (ws.map dSm), .tup (brs ++ r2)]) p9 l9 (But.trans b11 (butOf s13)) (St10.same s13)
      (.tup (.of upd_same) (.cons (.str _) (.cons (dinSame (sameNew nT) (dinSum hs12)) (.cons (.tup (tupS (Same.trans s10 s13) ht9) (dinASame (Same.trans s10 s13) hA9)) (.cons (.tup (tupS s13 hr10) (dinASame s13 hbody)) .nil)))))
      (loop_row hw12 hws (by omega) (good_tup hgb) (pures_of fun d hd => (hgb d hd).2.1)) ?_ (by omega) (by omega) (by omega)
    rw [cnt_loop, cnt_tup, List.map_append, List.sum_append]
    rw [cnt_tup] at hc2
    omega

end

end LW

namespace LW
open PySem PySem.Spec PyProof.Rows L2
local macro_rules | `(tactic| walk_at "go1") => `(tactic| first
  | refine ⟨_, rfl, ?_⟩
  | refine ⟨_, _, rfl, rfl, ?_⟩
  | refine ⟨show (0 : Int) < _ from by omega, ?_⟩
  | refine ⟨show CMul _ _ from by first | exact .inl ⟨by omega, by omega⟩ | exact .inr ⟨by omega, by omega⟩, ?_⟩
  | refine ⟨show CDiv _ _ from ⟨by omega, by omega⟩, ?_⟩)
local macro_rules | `(tactic| walk_at "go") => `(tactic| repeat walk_at "go1")

section
variable {P : Program} {w : World} {K : PySem.W.Frag} {mg : Str → Option Value} {base : Heap}

theorem merge_st {sc tp : Addr} {p l : Int} : mergeK [] (stK sc tp p l) = stK sc tp p l := by
  have h := stNe
  have k1 := keyNe h.1
  have k2 := keyNe h.2.1
  have k3 := keyNe h.2.2.1
  have k4 := keyNe h.2.2.2.1
  have k5 := keyNe h.2.2.2.2.1
  have k6 := keyNe h.2.2.2.2.2
  simp only [mergeK, stK, List.foldl_cons, List.foldl_nil, putK, List.any_cons, List.any_nil, List.nil_append, List.cons_append, decide_eq_false k1, decide_eq_false k2, decide_eq_false k3, decide_eq_false k4, decide_eq_false k5, decide_eq_false k6, Bool.or_false, Bool.or_self, Bool.false_eq_true, if_false]
def spProgG (K : PySem.W.Frag) : Sp := fun vs H Q _ => ∃ (a : Addr) (ns : List Int) (most : Int), vs = [.ref a, .int most] ∧ SqL K H a (ns.map V.int) ∧ ns.length ≤ 63 ∧ 1 ≤ most ∧ most ≤ 28 ∧
  ∀ (r tp : Addr) (H' : Hp) (v : V) (tops : List Int) (rows : List D), Same H H' → SqT K H' r [.ref tp, v] → H tp = none → H' tp = some (.lst (tops.map V.int)) → TopsW tops → Din K H' v (.tup rows) → (∀ d ∈ rows, GRow tops.length 3 d) → ((cnt 4 (.tup rows) : Nat) : Int) ≤ most + 1 → Q (.ref r) H'
abbrev s__law_program : Stmt := topS 47
theorem sc__law_program : FnScope ["_law_script", "_law_most", "_law_tops_here", "_law_state"] ["_law_script", "_law_most"] (defScope s__law_program) := ⟨rfl, rfl, rfl, by decide +kernel, rfl, by decide +kernel, by decide +kernel⟩

theorem ok__law_program {f : Addr} {fd : FuncData} {k : Nat} (F : Fun K "_law_program" "_law_program" s__law_program f fd) (B : Bl mg) (c__law_at : C8.Cal P w K mg base k "_law_at" (spAt K) []) (c__law_tops : C8.Cal P w K mg base k "_law_tops" (spTopsG K) []) (c__law_rows : C8.Cal P w K mg base k "_law_rows" (spGRows K 4) []) : FnOk P w K mg base CX0 (k + 1) f fd ["_law_script", "_law_most"] (spProgG K) := by
  refine F.ok sc__law_program (fun vs H Q E h => ?_) (fun cdv A outer s H vs Q E hr h => ?_)
  · obtain ⟨a, ns, most, rfl, _⟩ := h
    rfl
  obtain ⟨a, ns, most, rfl, hS, h63, hm0, hm1, q⟩ := h
  refine ⟨_, (pss_cons (ps_set (i := 2) sc__law_program.nd rfl (.inl rfl) (C8.pe_c c__law_tops hr (Nat.le_refl _) (by rfl) (pa_cons (pv 0) pa_nil)))
    (pss_cons (ps_set (i := 3) sc__law_program.nd rfl (.inl rfl) (pe_disp (pps_cons pe_str (pv 0) (pps_cons pe_str pe_int (pps_cons pe_str (pv 1) (pps_cons pe_str (pv 2) pps_nil)))) (by rfl) (by rfl) (fun z => by cases z) (by decide)))
    (pss_one (ps_ret (pe_tup (pa_cons (pv 2) (pa_cons (C8.pe_c c__law_rows hr (Nat.le_refl _) (by rfl) (pa_cons (pv 3) (pa_cons pe_int (pa_cons (pe_op op_mod (C8.pe_c c__law_at hr (Nat.le_refl _) (by rfl) (pa_cons (pv 0) (pa_cons pe_int pa_nil))) (pe_op op_add (pv 1) pe_int)) pa_nil)))) pa_nil))))))), ?_⟩
  refine ⟨_, rfl, a, ns, rfl, hS, h63, fun tp H1 tops n1 s1 ht tw => ?_⟩
  refine fun ds nd => ⟨_, rfl, _, rfl, _, rfl, upd_same, stK a tp 4 most, rfl, by show 4 ≤ 15; decide, ?_⟩
  rw [merge_st]
  have nd0 : H ds = none := Same.free s1 nd
  have e2 : upd (upd H1 ds (.dK [])) ds (.dK (stK a tp 4 most)) = upd H1 ds (.dK (stK a tp 4 most)) := by
    funext x
    by_cases hx : x = ds
    · subst hx
      rw [upd_same, upd_same]
    · rw [upd_ne hx, upd_ne hx, upd_ne hx]
  rw [e2]
  have s2 : Same H1 (upd H1 ds (.dK (stK a tp 4 most))) := sameNew nd
  have St : Stt K (upd H1 ds (.dK (stK a tp 4 most))) ds a tp ns tops 4 most := ⟨upd_same, Same.seq s2 (Same.seq s1 hS), h63, .of (s2 _ _ ht), tw⟩
  generalize hG : upd H1 ds (.dK (stK a tp 4 most)) = H2 at *
  have ht2 : H2 tp = some (.lst (tops.map V.int)) := s2 _ _ ht
  refine ⟨_, rfl, _, rfl, _, rfl, a, ns, 3, rfl, St.s, h63, by omega, by omega, fun z z0 z1 => ?_⟩
  refine ⟨_, rfl, _, _, rfl, rfl, _, _, rfl, rfl, (show (0 : Int) < most + 1 by omega), ?_⟩
  have e0 : 0 ≤ z % (most + 1) := Int.emod_nonneg _ (by omega)
  have e1 : z % (most + 1) < most + 1 := Int.emod_lt_of_pos _ (by omega)
  refine ⟨ds, a, tp, ns, tops, 4, most, 3, _, rfl, by omega, by omega, St, by omega, by omega, by omega, by omega, e0, by omega, fun H3 v rows p' l' b3 St3 hd hg hc l0 p0 pl => ?_⟩
  have s3 : Same H H3 := fun x o hx => by
    have h1 : x ≠ ds := fun z => by rw [z, nd0] at hx; cases hx
    exact b3 x o h1 (s2 _ _ (s1 _ _ hx))
  have hne : tp ≠ ds := fun z => by rw [z, nd] at ht; cases ht
  refine ⟨by show 2 ≤ sizeLine; decide, fun T nT => ?_⟩
  exact q T tp _ v tops rows (Same.trans s3 (sameNew nT)) (.of upd_same) n1 (sameNew nT _ _ (b3 _ _ hne ht2)) tw (dinSame (sameNew nT) hd) hg (by omega)

end

end LW

namespace LW
open PySem PySem.Spec PyProof.Rows L2
local macro_rules | `(tactic| walk_at "go1") => `(tactic| first
  | refine ⟨_, rfl, ?_⟩
  | refine ⟨_, _, rfl, rfl, ?_⟩
  | refine ⟨show (0 : Int) < _ from by omega, ?_⟩
  | refine ⟨show CMul _ _ from by first | exact .inl ⟨by omega, by omega⟩ | exact .inr ⟨by omega, by omega⟩, ?_⟩
  | refine ⟨show CDiv _ _ from ⟨by omega, by omega⟩, ?_⟩)
local macro_rules | `(tactic| walk_at "go") => `(tactic| repeat walk_at "go1")

section
variable {P : Program} {w : World} {K : PySem.W.Frag} {mg : Str → Option Value} {base : Heap}

/-- a deed as data -/
def Rs.kind : Rs → Str
  | .nil => ""
  | .put .. => "put"
  | .say .. => "say"
  | .ite .. => "if"
  | .loop .. => "loop"
def dPc (pl : List Nat) : D := .tup (pl.map fun n : Nat => D.int (n : Int))
def De.d : De → D
  | .row p => .tup [.str p.rs.kind, dPc (p.ah ++ [p.i]), p.rs.hd]
  | .br p to => .tup [.str p.rs.kind, dPc (p.ah ++ [p.i]), p.rs.hd, .int (to : Int)]
  | .jump pl to => .tup [.str "jump", dPc pl, .int (to : Int)]
theorem puresApp : ∀ {a b : List D}, D.pures a = true → D.pures b = true → D.pures (a ++ b) = true := fun {a b} h1 h2 => pures_of fun d hd => by
  rcases List.mem_append.mp hd with h | h
  · exact purePart h1 h
  · exact purePart h2 h
theorem pureSums (ws : List Sm) : D.pures (ws.map dSm) = true := pures_of fun d hd => by
  obtain ⟨s, _, rfl⟩ := List.mem_map.mp hd
  exact pureSum s
theorem rsPure : ∀ rs : Rs, D.pures rs.ds = true
  | .nil => rfl
  | .put b s t => by simp [Rs.ds, D.pures, D.pure, pureSum, rsPure t]
  | .say w t => by simp [Rs.ds, D.pures, D.pure, pureSum, rsPure t]
  | .ite w a b t => by simp [Rs.ds, D.pures, D.pure, pureSum, rsPure a, rsPure b, rsPure t]
  | .loop w ws b t => by simp [Rs.ds, D.pures, D.pure, pureSum, pureSums, rsPure b, rsPure t]
theorem hdPure (rs : Rs) : rs.hd.pure = true := by
  cases rs with
  | nil => rfl
  | put b s t => simp [Rs.hd, D.pures, D.pure, pureSum]
  | say w t => simp [Rs.hd, D.pures, D.pure, pureSum]
  | ite w a b t => simp [Rs.hd, D.pures, D.pure, pureSum, rsPure]
  | loop w ws b t => simp [Rs.hd, D.pures, D.pure, pureSum, pureSums, rsPure]
theorem pcPure (pl : List Nat) : (dPc pl).pure = true := by
  show D.pures _ = true
  refine pures_of fun d hd => ?_
  obtain ⟨n, _, rfl⟩ := List.mem_map.mp hd
  rfl
theorem dePure (d : De) : d.d.pure = true := by
  cases d <;> simp [De.d, D.pures, D.pure, pcPure, hdPure]
theorem desPure (l : List De) : D.pures (l.map De.d) = true := pures_of fun d hd => by
  obtain ⟨s, _, rfl⟩ := List.mem_map.mp hd
  exact dePure s
theorem dinPc {H : Hp} {a : Addr} {pl : List Nat} (h : SqT K H a (nats pl)) : Din K H (.ref a) (dPc pl) := by
  refine .tup h ?_
  have := dinInts (K := K) (H := H) (pl.map fun n : Nat => (n : Int))
  rw [List.map_map, List.map_map] at this
  exact this
theorem setMid {α : Type} {A B : List α} {x y : α} {n : Nat} (e : n = A.length) : (A ++ x :: B).set n y = A ++ y :: B := by
  subst e
  simp
theorem dinSetD {H : Hp} : ∀ {vs : List V} {ds : List D} {j : Nat} {v : V} {d : D}, DinA K H vs ds → Din K H v d → DinA K H (vs.set j v) (ds.set j d)
  | _, _, _, _, _, .nil, _ => .nil
  | _, _, 0, _, _, .cons _ t, h => .cons h t
  | _, _, j + 1, _, _, .cons g t, h => .cons g (dinSetD t h)
theorem mapSet {α β : Type} {f : α → β} {l : List α} {j : Nat} {x : α} : (l.map f).set j (f x) = (l.set j x).map f := by simp [List.map_set]
theorem hdKind {H : Hp} {v : V} {rs : Rs} (n : rs.isNil = false) (h : Din K H v rs.hd) : ∃ ra rx, v = .ref ra ∧ SqT K H ra rx ∧ rx[0]? = some (.str rs.kind) := by
  cases rs with
  | nil => cases n
  | _ =>
    cases h with
    | @tup ra rx _ hR hRA =>
    cases hRA with
    | cons k0 kA =>
    cases k0
    exact ⟨_, _, rfl, hR, rfl⟩
abbrev s__law_code : Stmt := topS 48
theorem sc__law_code : FnScope ["_law_rows_here", "_law_ahead", "_law_code_here", "_law_k", "_law_row_here", "_law_place", "_law_at_here", "_law_middle"] ["_law_rows_here", "_law_ahead", "_law_code_here"] (defScope s__law_code) := ⟨rfl, rfl, rfl, by decide +kernel, rfl, by decide +kernel, by decide +kernel⟩

def spCode (K : PySem.W.Frag) (i : Nat) : Sp := fun vs H Q _ => ∃ (a b L : Addr) (xs us : List V) (R : Rs) (ah : List Nat) (fr : Fr) (pre : List De), vs = [.ref a, .ref b, .ref L] ∧ SqT K H a xs ∧ DinA K H xs R.ds ∧ SqT K H b (nats ah) ∧ H L = some (.lst us) ∧ DinA K H us (pre.map De.d) ∧ R.dep < i ∧ ah.length + 2 * i ≤ 100 ∧ pre.length + clen R ≤ 1000 ∧
  ∀ (us' : List V) (H' : Hp), But L H H' → H' L = some (.lst us') → DinA K H' us' ((pre ++ codeR R ah 0 fr pre.length).map De.d) → Q .non H'
theorem ok__law_code {f : Addr} {fd : FuncData} {k i : Nat} (F : Fun K "_law_code" "_law_code" s__law_code f fd) (B : Bl mg) (c__law_code : C8.Cal P w K mg base k "_law_code" (spCode K i) []) : FnOk P w K mg base CX0 (k + 1) f fd ["_law_rows_here", "_law_ahead", "_law_code_here"] (spCode K (i + 1)) := by
  refine F.ok sc__law_code (fun vs H Q E h => ?_) (fun cdv A outer s H vs Q E hr h => ?_)
  · obtain ⟨a, b, L, xs, us, R, ah, fr, pre, rfl, _⟩ := h
    rfl
  obtain ⟨a, b, L, xs, us, R, ah, fr, pre, rfl, hT, hA, hb, hL, hU, hd, ha, hp, q⟩ := h
  refine ⟨_, (pss_one (ps_for PassesOwn.never rfl (pi_range1 (by rfl) B.range (pa_cons (pe_callB (kLen (K := K) rfl) (by rfl) B.len PySem.boot_len (pa_cons (pv 0) pa_nil)) pa_nil)) (pg_name (i := 3) sc__law_code.nd rfl (.inl rfl))
      (pss_cons (ps_set (i := 4) sc__law_code.nd rfl (.inl rfl) (pe_ix (kIxT (K := K) rfl) (pv 0) (pv 3) (fun _ _ => rfl)))
      (pss_cons (ps_set (i := 5) sc__law_code.nd rfl (.inl rfl) (pe_op (kCatT (K := K) rfl) (pv 1) (pe_tup (pa_cons (pv 3) pa_nil))))
      (pss_cons (ps_set (i := 6) sc__law_code.nd rfl (.inl rfl) (pe_callB (kLen (K := K) rfl) (by rfl) B.len PySem.boot_len (pa_cons (pv 2) pa_nil)))
      (pss_cons (ps_expr (pe_bm PySem.F.plainAttrs_list PySem.F.slot_list_append PySem.F.type_list_append mt_append (pv 2) (pa_cons (pe_tup (pa_cons (pe_ix (kIxT (K := K) rfl) (pv 4) pe_int (fun _ _ => rfl)) (pa_cons (pv 5) (pa_cons (pv 4) pa_nil)))) pa_nil)))
      (pss_cons (ps_if (pt_cmpR op_eq (pe_ix (kIxT (K := K) rfl) (pv 4) pe_int (fun _ _ => rfl)) pe_str (nomark _))
        (pss_cons (ps_expr (C8.pe_c c__law_code hr (Nat.le_refl _) (by rfl) (pa_cons (pe_ix (kIxT (K := K) rfl) (pv 4) pe_int (fun _ _ => rfl)) (pa_cons (pe_op (kCatT (K := K) rfl) (pv 5) (pe_tup (pa_cons pe_int pa_nil))) (pa_cons (pv 2) pa_nil)))))
        (pss_cons (ps_set (i := 7) sc__law_code.nd rfl (.inl rfl) (pe_callB (kLen (K := K) rfl) (by rfl) B.len PySem.boot_len (pa_cons (pv 2) pa_nil)))
        (pss_cons (ps_expr (pe_bm PySem.F.plainAttrs_list PySem.F.slot_list_append PySem.F.type_list_append mt_append (pv 2) (pa_cons (pe_tup (pa_cons pe_str (pa_cons (pv 5) (pa_cons pe_int pa_nil)))) pa_nil)))
        (pss_cons (ps_expr (C8.pe_c c__law_code hr (Nat.le_refl _) (by rfl) (pa_cons (pe_ix (kIxT (K := K) rfl) (pv 4) pe_int (fun _ _ => rfl)) (pa_cons (pe_op (kCatT (K := K) rfl) (pv 5) (pe_tup (pa_cons pe_int pa_nil))) (pa_cons (pv 2) pa_nil)))))
        (pss_cons (ps_asg (pe_tup (pa_cons pe_str (pa_cons (pv 5) (pa_cons (pv 4) (pa_cons (pe_op op_add (pv 7) pe_int) pa_nil))))) (pg_sub (pv 2) (pv 6) set_list))
        (pss_one (ps_asg (pe_tup (pa_cons pe_str (pa_cons (pv 5) (pa_cons (pe_callB (kLen (K := K) rfl) (by rfl) B.len PySem.boot_len (pa_cons (pv 2) pa_nil)) pa_nil)))) (pg_sub (pv 2) (pv 7) set_list))))))))
        pss_nil)
      (pss_one (ps_if (pt_cmpR op_eq (pe_ix (kIxT (K := K) rfl) (pv 4) pe_int (fun _ _ => rfl)) pe_str (nomark _))
        (pss_cons (ps_expr (C8.pe_c c__law_code hr (Nat.le_refl _) (by rfl) (pa_cons (pe_ix (kIxT (K := K) rfl) (pv 4) pe_int (fun _ _ => rfl)) (pa_cons (pe_op (kCatT (K := K) rfl) (pv 5) (pe_tup (pa_cons pe_int pa_nil))) (pa_cons (pv 2) pa_nil)))))
        (pss_cons (ps_expr (pe_bm PySem.F.plainAttrs_list PySem.F.slot_list_append PySem.F.type_list_append mt_append (pv 2) (pa_cons (pe_tup (pa_cons pe_str (pa_cons (pv 5) (pa_cons (pv 6) pa_nil)))) pa_nil)))
        (pss_one (ps_asg (pe_tup (pa_cons pe_str (pa_cons (pv 5) (pa_cons (pv 4) (pa_cons (pe_callB (kLen (K := K) rfl) (by rfl) B.len PySem.boot_len (pa_cons (pv 2) pa_nil)) pa_nil))))) (pg_sub (pv 2) (pv 6) set_list)))))
        pss_nil))))))))), ?_⟩
  have szl : (100000 : Nat) ≤ sizeLine := by decide
  have lA := hA.len
  have lds : R.ds.length ≤ clen R := by
    clear hA hp hd q lA
    induction R with
    | nil => exact Nat.le_refl _
    | put b s t ih => simp only [Rs.ds, clen, List.length_cons]; omega
    | say w t ih => simp only [Rs.ds, clen, List.length_cons]; omega
    | ite w a b t _ _ ih => simp only [Rs.ds, clen, List.length_cons]; omega
    | loop w ws b t _ ih => simp only [Rs.ds, clen, List.length_cons]; omega
  have lpre : us.length = pre.length := by rw [hU.len, List.length_map]
  refine ⟨_, rfl, _, _, rfl, .inr hT, _, rfl, by omega, by omega, ?_⟩
  refine for_range (lo := 0) (n := xs.length) (fun j σ H' => ∃ (us' : List V) (rs : Rs) (done : List De) (y3 y4 y5 y6 y7 : Option V), σ = [some (.ref a), some (.ref b), some (.ref L), y3, y4, y5, y6, y7] ∧ But L H H' ∧ H' L = some (.lst us') ∧ DinA K H' us' ((pre ++ done).map De.d) ∧ R.ds.drop j = rs.ds ∧ codeR R ah 0 fr pre.length = done ++ codeR rs ah j fr (pre.length + done.length) ∧ rs.dep ≤ R.dep)
    ⟨us, R, [], none, none, none, none, none, rfl, But.refl _ _, hL, by simpa using hU, by simp, by simp, Nat.le_refl _⟩ (fun j σ H1 hj z => ?_) (fun σ H1 z => ?_)
  · obtain ⟨us1, rs, done, y3, y4, y5, y6, y7, rfl, b1, hL1, hU1, edr, eco, hdp⟩ := z
    have nrs : rs.isNil = false := by
      cases rs with
      | nil =>
        have := congrArg List.length edr
        simp [Rs.ds] at this
        omega
      | _ => rfl
    obtain ⟨rv, erv⟩ : ∃ rv, xs[j]? = some rv := ⟨_, List.getElem?_eq_getElem hj⟩
    obtain ⟨d, ed, hdv⟩ := dinAt hA erv
    have ehd : d = rs.hd := by
      have e1 : (R.ds.drop j)[0]? = some d := by rw [List.getElem?_drop]; exact ed
      rw [edr, Rs.ds_hd nrs] at e1
      exact (Option.some.inj e1).symm
    subst ehd
    have e0 : (0 : Int) + (j : Int) = ((j : Nat) : Int) := by omega
    have atr : atI xs (0 + (j : Int)) = some rv := by
      rw [e0]
      exact atI_nat erv
    have ts1 := butTL b1 hL
    refine ⟨_, rfl, _, rfl, _, _, _, _, rfl, rfl, tsTup ts1 hT, atr, ?_⟩
    refine ⟨_, rfl, _, rfl, by show 1 ≤ sizeLine; decide, fun U nU => ?_⟩
    have sU := sameNew (o := .tup [.int (0 + (j : Int))]) nU
    refine catUse (xs := nats ah) (ys := [.int (0 + (j : Int))]) (tupS sU (tsTup ts1 hb)) (.of upd_same) (by simp [nats]; omega) fun pl H2 s2 hpl => ?_
    have epl : nats ah ++ [V.int (0 + (j : Int))] = nats (ah ++ [j]) := by simp [nats]
    rw [epl] at hpl
    have s12 := Same.trans sU s2
    have hL2 := s12 _ _ hL1
    have hU2 := dinASame s12 hU1
    have b2 := b1.trans (butOf s12)
    have ts2 := butTL b2 hL
    have hdv2 := dinTS ts2 (hdPure rs) hdv
    obtain ⟨ra, rx, rfl, hR, hR0⟩ := hdKind nrs hdv2
    have lU1 : us1.length = pre.length + done.length := by rw [hU1.len, List.length_map, List.length_append]
    have lco := congrArg List.length eco
    rw [codeR_len, List.length_append, codeR_len] at lco
    generalize upd H1 U (.tup [.int (0 + (j : Int))]) = Hx at *
    clear hU1 hL1 b1 ts1 s12 nU sU s2
    -- at_here, and the deed
    refine ⟨_, rfl, _, _, rfl, .inl (.of hL2), ?_⟩
    refine ⟨_, rfl, .inl ⟨rfl, _, .of hL2⟩, _, rfl, _, _, _, _, rfl, rfl, hR, atI_nat hR0, _, rfl, _, rfl, by show 3 ≤ sizeLine; decide, fun T nT => ?_⟩
    have sT := sameNew (o := .tup [.str rs.kind, .ref pl, .ref ra]) nT
    have hL3 := sT _ _ hL2
    refine ⟨L, us1, _, rfl, rfl, hL3, by omega, ?_⟩
    have t24 : TS H2 (upd (upd H2 T (.tup [.str rs.kind, .ref pl, .ref ra])) L (.lst (us1 ++ [.ref T]))) := TS.trans (tsOf sT) (tsLst hL3)
    have b4 : But L H (upd (upd H2 T (.tup [.str rs.kind, .ref pl, .ref ra])) L (.lst (us1 ++ [.ref T]))) := butMut (b2.trans (butOf sT))
    have hL4 : upd (upd H2 T (.tup [.str rs.kind, .ref pl, .ref ra])) L (.lst (us1 ++ [.ref T])) L = some (.lst (us1 ++ [.ref T])) := upd_same
    have hT4 : SqT K (upd (upd H2 T (.tup [.str rs.kind, .ref pl, .ref ra])) L (.lst (us1 ++ [.ref T]))) T [.str rs.kind, .ref pl, .ref ra] := tsTup (tsLst hL3) (.of upd_same)
    generalize upd (upd H2 T (.tup [.str rs.kind, .ref pl, .ref ra])) L (.lst (us1 ++ [.ref T])) = H4 at *
    have hdv4 := dinTS t24 (hdPure rs) hdv2
    have hpl4 := tsTup t24 hpl
    have hR4 := tsTup t24 hR
    have hU4 : DinA K H4 (us1 ++ [.ref T]) ((pre ++ (done ++ [De.row ⟨ah, j, rs, fr⟩])).map De.d) := by
      rw [← List.append_assoc, List.map_append]
      exact dinApp (dinATS t24 (desPure _) hU2) (.cons (.tup hT4 (.cons (.str _) (.cons (dinPc hpl4) (.cons hdv4 .nil)))) .nil)
    clear hU2 hT4 hR hpl hdv2 hL2 hL3 nT
    have lds := congrArg List.length edr
    cases rs with
    | nil => cases nrs
    | put bx sm t =>
      have hR0 : rx[0]? = some (V.str ("put" : Str)) := hR0
      refine ⟨_, rfl, _, _, _, _, rfl, rfl, hR4, atI_nat hR0, rfl, _, rfl, ?_⟩
      rw [decide_eq_false (fun c => absurd (show ("put" : Str) = "if" from strEq.mp c) (by decide +kernel))]
      refine iteF ⟨_, rfl, _, _, _, _, rfl, rfl, hR4, atI_nat hR0, rfl, _, rfl, ?_⟩
      rw [decide_eq_false (fun c => absurd (show ("put" : Str) = "loop" from strEq.mp c) (by decide +kernel))]
      refine iteF ⟨_, t, done ++ [.row ⟨ah, j, .put bx sm t, fr⟩], _, _, _, _, _, rfl, b4, hL4, hU4, ?_, ?_, ?_⟩
      · rw [← List.drop_drop, edr]; rfl
      · rw [eco, List.length_append]; simp [codeR, Nat.add_assoc]
      · simp only [Rs.dep] at hdp; omega
    | say wd t =>
      have hR0 : rx[0]? = some (V.str ("say" : Str)) := hR0
      refine ⟨_, rfl, _, _, _, _, rfl, rfl, hR4, atI_nat hR0, rfl, _, rfl, ?_⟩
      rw [decide_eq_false (fun c => absurd (show ("say" : Str) = "if" from strEq.mp c) (by decide +kernel))]
      refine iteF ⟨_, rfl, _, _, _, _, rfl, rfl, hR4, atI_nat hR0, rfl, _, rfl, ?_⟩
      rw [decide_eq_false (fun c => absurd (show ("say" : Str) = "loop" from strEq.mp c) (by decide +kernel))]
      refine iteF ⟨_, t, done ++ [.row ⟨ah, j, .say wd t, fr⟩], _, _, _, _, _, rfl, b4, hL4, hU4, ?_, ?_, ?_⟩
      · rw [← List.drop_drop, edr]; rfl
      · rw [eco, List.length_append]; simp [codeR, Nat.add_assoc]
      · simp only [Rs.dep] at hdp; omega
    | ite wd ra2 rb2 t =>
      simp only [Rs.dep] at hdp
      cases hdv4 with
      | @tup _ rx _ hR4 hRA =>
      cases hRA with
      | cons k0 kA =>
      cases k0
      cases kA with
      | cons k1 kA =>
      cases kA with
      | cons k2 kA =>
      cases kA with
      | cons k3 kA =>
      cases kA
      cases k2 with
      | @tup aa axs _ g1 g2 =>
      cases k3 with
      | @tup ba bxs _ g3 g4 =>
      have szc : clen (.ite wd ra2 rb2 t) = 2 + clen ra2 + clen rb2 + clen t := rfl
      rw [szc] at lco
      refine ⟨_, rfl, _, _, _, _, rfl, rfl, hR4, atI_nat (j := 0) rfl, rfl, _, rfl, ?_⟩
      rw [decide_eq_true (strEq.mpr rfl)]
      refine iteT ?_
      refine ⟨_, rfl, _, _, _, _, rfl, rfl, hR4, atI_nat (j := 2) rfl, ?_⟩
      refine ⟨_, rfl, by show 1 ≤ sizeLine; decide, fun U5 nU5 => ?_⟩
      have sU5 := sameNew (o := .tup [.int 0]) nU5
      refine catUse (xs := nats (ah ++ [j])) (ys := [.int 0]) (tupS sU5 hpl4) (.of upd_same) (by simp [nats]; omega) fun pl5 H5 s5 hpl5 => ?_
      have s45 := Same.trans sU5 s5
      have e5 : nats (ah ++ [j]) ++ [V.int 0] = nats (ah ++ [j, 0]) := by simp [nats]
      rw [e5] at hpl5
      have hL5 := s45 _ _ hL4
      refine ⟨_, rfl, aa, pl5, L, axs, _, ra2, ah ++ [j, 0], .ifF ah (j + 1) t fr, pre ++ (done ++ [De.row ⟨ah, j, .ite wd ra2 rb2 t, fr⟩]), rfl, tupS s45 g1, dinASame s45 g2, hpl5, hL5, dinASame s45 hU4, by omega, by simp; omega, by simp; omega, fun us6 H6 b6 hL6 hU6 => ?_⟩
      have t46 := TS.trans (tsOf s45) (butTL b6 hL5)
      have b46 := b4.trans ((butOf s45).trans b6)
      have hpl6 := tsTup t46 hpl4
      have hR6 := tsTup t46 hR4
      have lU6 := hU6.len
      rw [List.length_map, List.length_append, codeR_len] at lU6
      simp only [List.length_append, List.length_singleton] at lU6
      generalize upd H4 U5 (.tup [.int 0]) = Hy at *
      -- the middle
      refine ⟨_, rfl, _, _, rfl, .inl (.of hL6), ?_⟩
      refine ⟨_, rfl, .inl ⟨rfl, _, .of hL6⟩, _, rfl, by show 3 ≤ sizeLine; decide, fun T7 nT7 => ?_⟩
      have sT7 := sameNew (o := .tup [.str "jump", .ref pl, .int 0]) nT7
      have hL7 := sT7 _ _ hL6
      refine ⟨L, us6, _, rfl, rfl, hL7, by omega, ?_⟩
      have t68 : TS H6 (upd (upd H6 T7 (.tup [.str "jump", .ref pl, .int 0])) L (.lst (us6 ++ [.ref T7]))) := TS.trans (tsOf sT7) (tsLst hL7)
      have b8 : But L H (upd (upd H6 T7 (.tup [.str "jump", .ref pl, .int 0])) L (.lst (us6 ++ [.ref T7]))) := butMut (b46.trans (butOf sT7))
      have hL8 : upd (upd H6 T7 (.tup [.str "jump", .ref pl, .int 0])) L (.lst (us6 ++ [.ref T7])) L = some (.lst (us6 ++ [.ref T7])) := upd_same
      have hT8 : SqT K (upd (upd H6 T7 (.tup [.str "jump", .ref pl, .int 0])) L (.lst (us6 ++ [.ref T7]))) T7 [.str "jump", .ref pl, .int 0] := tsTup (tsLst hL7) (.of upd_same)
      generalize upd (upd H6 T7 (.tup [.str "jump", .ref pl, .int 0])) L (.lst (us6 ++ [.ref T7])) = H8 at *
      have t48 := TS.trans t46 t68
      have hpl8 := tsTup t48 hpl4
      have hU8 : DinA K H8 (us6 ++ [.ref T7]) ((pre ++ (done ++ [De.row ⟨ah, j, .ite wd ra2 rb2 t, fr⟩]) ++ codeR ra2 (ah ++ [j, 0]) 0 (.ifF ah (j + 1) t fr) (pre ++ (done ++ [De.row ⟨ah, j, .ite wd ra2 rb2 t, fr⟩])).length ++ [De.jump (ah ++ [j]) 0]).map De.d) := by
        rw [List.map_append (l₂ := [_])]
        exact dinApp (dinATS t68 (desPure _) hU6) (.cons (.tup hT8 (.cons (.str _) (.cons (dinPc hpl8) (.cons (.int 0) .nil)))) .nil)
      refine ⟨_, rfl, _, _, _, _, rfl, rfl, tsTup t48 hR4, atI_nat (j := 3) rfl, ?_⟩
      refine ⟨_, rfl, by show 1 ≤ sizeLine; decide, fun U9 nU9 => ?_⟩
      have sU9 := sameNew (o := .tup [.int 1]) nU9
      refine catUse (xs := nats (ah ++ [j])) (ys := [.int 1]) (tupS sU9 hpl8) (.of upd_same) (by simp [nats]; omega) fun pl9 H9 s9 hpl9 => ?_
      have s89 := Same.trans sU9 s9
      have e9 : nats (ah ++ [j]) ++ [V.int 1] = nats (ah ++ [j, 1]) := by simp [nats]
      rw [e9] at hpl9
      have hL9 := s89 _ _ hL8
      have t49 := TS.trans t48 (tsOf s89)
      refine ⟨_, rfl, ba, pl9, L, bxs, _, rb2, ah ++ [j, 1], .ifF ah (j + 1) t fr, _, rfl, tsTup t49 g3, dinATS t49 (rsPure _) g4, hpl9, hL9, dinASame s89 hU8, by omega, by simp; omega, by simp [codeR_len]; omega, fun us10 H10 b10 hL10 hU10 => ?_⟩
      have t410 := TS.trans t49 (butTL b10 hL9)
      have b410 := b8.trans ((butOf s89).trans b10)
      have hpl10 := tsTup t410 hpl4
      have hR10 := tsTup t410 hR4
      have hRd10 : Din K H10 (.ref ra) (Rs.hd (.ite wd ra2 rb2 t)) := .tup hR10 (.cons (.str _) (.cons (dinTS t410 (pureSum _) k1) (.cons (.tup (tsTup t410 g1) (dinATS t410 (rsPure _) g2)) (.cons (.tup (tsTup t410 g3) (dinATS t410 (rsPure _) g4)) .nil))))
      have lU10 := hU10.len
      simp only [List.length_map, List.length_append, codeR_len, List.length_singleton] at lU10
      generalize upd H8 U9 (.tup [.int 1]) = Hz at *
      clear hU8 hU6 hpl8 hpl9 hpl6 hpl5
      -- the deed of the if
      refine ⟨_, rfl, _, rfl, _, rfl, _, _, rfl, rfl, by show 4 ≤ sizeLine; decide, fun T11 nT11 => ?_⟩
      have sT11 := sameNew (o := .tup [.str "if", .ref pl, .ref ra, .int ((us6.length : Int) + 1)]) nT11
      have hL11 := sT11 _ _ hL10
      refine ⟨_, rfl, _, rfl, L, us10, _, us1.length, rfl, rfl, hL11, ixN_nat (by omega), ?_⟩
      have t1012 : TS H10 (upd (upd H10 T11 (.tup [.str "if", .ref pl, .ref ra, .int ((us6.length : Int) + 1)])) L (.lst (us10.set us1.length (.ref T11)))) := TS.trans (tsOf sT11) (tsLst hL11)
      have b12 : But L H (upd (upd H10 T11 (.tup [.str "if", .ref pl, .ref ra, .int ((us6.length : Int) + 1)])) L (.lst (us10.set us1.length (.ref T11)))) := butMut (b410.trans (butOf sT11))
      have hL12 : upd (upd H10 T11 (.tup [.str "if", .ref pl, .ref ra, .int ((us6.length : Int) + 1)])) L (.lst (us10.set us1.length (.ref T11))) L = some (.lst (us10.set us1.length (.ref T11))) := upd_same
      have hT12 : SqT K (upd (upd H10 T11 (.tup [.str "if", .ref pl, .ref ra, .int ((us6.length : Int) + 1)])) L (.lst (us10.set us1.length (.ref T11)))) T11 [.str "if", .ref pl, .ref ra, .int ((us6.length : Int) + 1)] := tsTup (tsLst hL11) (.of upd_same)
      generalize upd (upd H10 T11 (.tup [.str "if", .ref pl, .ref ra, .int ((us6.length : Int) + 1)])) L (.lst (us10.set us1.length (.ref T11))) = H12 at *
      refine ⟨_, rfl, _, rfl, _, _, rfl, .inl (.of hL12), by show 3 ≤ sizeLine; decide, fun T13 nT13 => ?_⟩
      rw [List.length_set]
      have sT13 := sameNew (o := .tup [.str "jump", .ref pl, .int (us10.length : Int)]) nT13
      have hL13 := sT13 _ _ hL12
      refine ⟨_, rfl, _, rfl, L, _, _, us6.length, rfl, rfl, hL13, ixN_nat (by rw [List.length_set]; omega), ?_⟩
      have t1214 : TS H12 (upd (upd H12 T13 (.tup [.str "jump", .ref pl, .int (us10.length : Int)])) L (.lst ((us10.set us1.length (.ref T11)).set us6.length (.ref T13)))) := TS.trans (tsOf sT13) (tsLst hL13)
      have b14 : But L H (upd (upd H12 T13 (.tup [.str "jump", .ref pl, .int (us10.length : Int)])) L (.lst ((us10.set us1.length (.ref T11)).set us6.length (.ref T13)))) := butMut (b12.trans (butOf sT13))
      have hL14 : upd (upd H12 T13 (.tup [.str "jump", .ref pl, .int (us10.length : Int)])) L (.lst ((us10.set us1.length (.ref T11)).set us6.length (.ref T13))) L = some (.lst ((us10.set us1.length (.ref T11)).set us6.length (.ref T13))) := upd_same
      have hT14 : SqT K (upd (upd H12 T13 (.tup [.str "jump", .ref pl, .int (us10.length : Int)])) L (.lst ((us10.set us1.length (.ref T11)).set us6.length (.ref T13)))) T13 [.str "jump", .ref pl, .int (us10.length : Int)] := tsTup (tsLst hL13) (.of upd_same)
      generalize upd (upd H12 T13 (.tup [.str "jump", .ref pl, .int (us10.length : Int)])) L (.lst ((us10.set us1.length (.ref T11)).set us6.length (.ref T13))) = H14 at *
      have t1014 := TS.trans t1012 t1214
      have hpl14 := tsTup t1014 hpl10
      refine ⟨_, rfl, _, _, _, _, rfl, rfl, tsTup t1014 hR10, atI_nat (j := 0) rfl, rfl, _, rfl, ?_⟩
      rw [decide_eq_false (fun c => absurd (show ("if" : Str) = "loop" from strEq.mp c) (by decide +kernel))]
      have hbr : Din K H14 (.ref T11) (De.br ⟨ah, j, .ite wd ra2 rb2 t, fr⟩ (pre.length + done.length + 2 + clen ra2)).d := by
        refine .tup (tsTup t1214 hT12) (.cons (.str _) (.cons (dinPc hpl14) (.cons (dinTS t1014 (hdPure _) hRd10) (.cons ?_ .nil))))
        rw [show ((us6.length : Int) + 1) = ((pre.length + done.length + 2 + clen ra2 : Nat) : Int) by omega]
        exact .int _
      have hju : Din K H14 (.ref T13) (De.jump (ah ++ [j]) (pre.length + done.length + 2 + clen ra2 + clen rb2)).d := by
        refine .tup hT14 (.cons (.str _) (.cons (dinPc hpl14) (.cons ?_ .nil)))
        rw [show us10.length = pre.length + done.length + 2 + clen ra2 + clen rb2 by omega]
        exact .int _
      have hU14 := dinSetD (j := us6.length) (dinSetD (j := us1.length) (dinATS t1014 (desPure _) hU10) hbr) hju
      rw [mapSet, mapSet] at hU14
      have eL : ∀ (A2' B2' : List De) (x1 x2 y1 y2 : De), A2'.length = clen ra2 → ((((pre ++ (done ++ [x1])) ++ A2' ++ [x2]) ++ B2').set us1.length y1).set us6.length y2 = pre ++ (done ++ y1 :: (A2' ++ y2 :: B2')) := by
        intro A2' B2' x1 x2 y1 y2 hl
        rw [show (((pre ++ (done ++ [x1])) ++ A2' ++ [x2]) ++ B2') = (pre ++ done) ++ x1 :: (A2' ++ x2 :: B2') by simp, setMid (by rw [List.length_append]; omega), show (pre ++ done) ++ y1 :: (A2' ++ x2 :: B2') = ((pre ++ done) ++ y1 :: A2') ++ x2 :: B2' by simp, setMid (by simp [hl]; omega)]
        simp
      rw [eL _ _ _ _ _ _ (codeR_len ..)] at hU14
      refine iteF ⟨_, t, _, _, _, _, _, _, rfl, b14, hL14, hU14, ?_, ?_, by omega⟩
      · rw [← List.drop_drop, edr]; rfl
      · rw [eco]
        have l1 : pre.length + (done ++ [De.row ⟨ah, j, .ite wd ra2 rb2 t, fr⟩]).length = pre.length + done.length + 1 := by simp; omega
        simp [codeR, codeR_len, l1]
        rw [show pre.length + (done.length + 1) = pre.length + done.length + 1 by omega, show pre.length + (done.length + (clen ra2 + 1 + 1)) = pre.length + done.length + 2 + clen ra2 by omega, show pre.length + (done.length + (clen ra2 + (clen rb2 + 1) + 1)) = pre.length + done.length + 2 + clen ra2 + clen rb2 by omega]
    | loop wd ws rb2 t =>
      simp only [Rs.dep] at hdp
      cases hdv4 with
      | @tup _ rx _ hR4 hRA =>
      cases hRA with
      | cons k0 kA =>
      cases k0
      cases kA with
      | cons k1 kA =>
      cases kA with
      | cons k2 kA =>
      cases kA with
      | cons k3 kA =>
      cases kA
      cases k3 with
      | @tup ba bxs _ g3 g4 =>
      have szc : clen (.loop wd ws rb2 t) = 2 + clen rb2 + clen t := rfl
      rw [szc] at lco
      refine ⟨_, rfl, _, _, _, _, rfl, rfl, hR4, atI_nat (j := 0) rfl, rfl, _, rfl, ?_⟩
      rw [decide_eq_false (fun c => absurd (show ("loop" : Str) = "if" from strEq.mp c) (by decide +kernel))]
      refine iteF ⟨_, rfl, _, _, _, _, rfl, rfl, hR4, atI_nat (j := 0) rfl, rfl, _, rfl, ?_⟩
      rw [decide_eq_true (strEq.mpr rfl)]
      refine iteT ?_
      refine ⟨_, rfl, _, _, _, _, rfl, rfl, hR4, atI_nat (j := 3) rfl, ?_⟩
      refine ⟨_, rfl, by show 1 ≤ sizeLine; decide, fun U5 nU5 => ?_⟩
      have sU5 := sameNew (o := .tup [.int 0]) nU5
      refine catUse (xs := nats (ah ++ [j])) (ys := [.int 0]) (tupS sU5 hpl4) (.of upd_same) (by simp [nats]; omega) fun pl5 H5 s5 hpl5 => ?_
      have s45 := Same.trans sU5 s5
      have e5 : nats (ah ++ [j]) ++ [V.int 0] = nats (ah ++ [j, 0]) := by simp [nats]
      rw [e5] at hpl5
      have hL5 := s45 _ _ hL4
      refine ⟨_, rfl, ba, pl5, L, bxs, _, rb2, ah ++ [j, 0], .loopF ah j wd ws rb2 t fr, pre ++ (done ++ [De.row ⟨ah, j, .loop wd ws rb2 t, fr⟩]), rfl, tupS s45 g3, dinASame s45 g4, hpl5, hL5, dinASame s45 hU4, by omega, by simp; omega, by simp; omega, fun us6 H6 b6 hL6 hU6 => ?_⟩
      have t46 := TS.trans (tsOf s45) (butTL b6 hL5)
      have b46 := b4.trans ((butOf s45).trans b6)
      have hpl6 := tsTup t46 hpl4
      have lU6 := hU6.len
      rw [List.length_map, List.length_append, codeR_len] at lU6
      simp only [List.length_append, List.length_singleton] at lU6
      generalize upd H4 U5 (.tup [.int 0]) = Hy at *
      refine ⟨_, rfl, .inl ⟨rfl, _, .of hL6⟩, _, rfl, _, rfl, by show 3 ≤ sizeLine; decide, fun T7 nT7 => ?_⟩
      have sT7 := sameNew (o := .tup [.str "jump", .ref pl, .int (us1.length : Int)]) nT7
      have hL7 := sT7 _ _ hL6
      refine ⟨L, us6, _, rfl, rfl, hL7, by omega, ?_⟩
      have t68 : TS H6 (upd (upd H6 T7 (.tup [.str "jump", .ref pl, .int (us1.length : Int)])) L (.lst (us6 ++ [.ref T7]))) := TS.trans (tsOf sT7) (tsLst hL7)
      have b8 : But L H (upd (upd H6 T7 (.tup [.str "jump", .ref pl, .int (us1.length : Int)])) L (.lst (us6 ++ [.ref T7]))) := butMut (b46.trans (butOf sT7))
      have hL8 : upd (upd H6 T7 (.tup [.str "jump", .ref pl, .int (us1.length : Int)])) L (.lst (us6 ++ [.ref T7])) L = some (.lst (us6 ++ [.ref T7])) := upd_same
      have hT8 : SqT K (upd (upd H6 T7 (.tup [.str "jump", .ref pl, .int (us1.length : Int)])) L (.lst (us6 ++ [.ref T7]))) T7 [.str "jump", .ref pl, .int (us1.length : Int)] := tsTup (tsLst hL7) (.of upd_same)
      generalize upd (upd H6 T7 (.tup [.str "jump", .ref pl, .int (us1.length : Int)])) L (.lst (us6 ++ [.ref T7])) = H8 at *
      have t48 := TS.trans t46 t68
      have hpl8 := tsTup t48 hpl4
      have hU8 : DinA K H8 (us6 ++ [.ref T7]) ((pre ++ (done ++ [De.row ⟨ah, j, .loop wd ws rb2 t, fr⟩]) ++ codeR rb2 (ah ++ [j, 0]) 0 (.loopF ah j wd ws rb2 t fr) (pre ++ (done ++ [De.row ⟨ah, j, .loop wd ws rb2 t, fr⟩])).length ++ [De.jump (ah ++ [j]) us1.length]).map De.d) := by
        rw [List.map_append (l₂ := [_])]
        exact dinApp (dinATS t68 (desPure _) hU6) (.cons (.tup hT8 (.cons (.str _) (.cons (dinPc hpl8) (.cons (.int _) .nil)))) .nil)
      refine ⟨_, rfl, _, rfl, _, rfl, _, _, rfl, .inl (.of hL8), by show 4 ≤ sizeLine; decide, fun T11 nT11 => ?_⟩
      have sT11 := sameNew (o := .tup [.str "loop", .ref pl, .ref ra, .int ((us6 ++ [V.ref T7]).length : Int)]) nT11
      have hL11 := sT11 _ _ hL8
      refine ⟨_, rfl, _, rfl, L, _, _, us1.length, rfl, rfl, hL11, ixN_nat (by rw [List.length_append]; omega), ?_⟩
      have t812 : TS H8 (upd (upd H8 T11 (.tup [.str "loop", .ref pl, .ref ra, .int ((us6 ++ [V.ref T7]).length : Int)])) L (.lst ((us6 ++ [V.ref T7]).set us1.length (.ref T11)))) := TS.trans (tsOf sT11) (tsLst hL11)
      have b12 : But L H (upd (upd H8 T11 (.tup [.str "loop", .ref pl, .ref ra, .int ((us6 ++ [V.ref T7]).length : Int)])) L (.lst ((us6 ++ [V.ref T7]).set us1.length (.ref T11)))) := butMut (b8.trans (butOf sT11))
      have hL12 : upd (upd H8 T11 (.tup [.str "loop", .ref pl, .ref ra, .int ((us6 ++ [V.ref T7]).length : Int)])) L (.lst ((us6 ++ [V.ref T7]).set us1.length (.ref T11))) L = some (.lst ((us6 ++ [V.ref T7]).set us1.length (.ref T11))) := upd_same
      have hT12 : SqT K (upd (upd H8 T11 (.tup [.str "loop", .ref pl, .ref ra, .int ((us6 ++ [V.ref T7]).length : Int)])) L (.lst ((us6 ++ [V.ref T7]).set us1.length (.ref T11)))) T11 [.str "loop", .ref pl, .ref ra, .int ((us6 ++ [V.ref T7]).length : Int)] := tsTup (tsLst hL11) (.of upd_same)
      generalize upd (upd H8 T11 (.tup [.str "loop", .ref pl, .ref ra, .int ((us6 ++ [V.ref T7]).length : Int)])) L (.lst ((us6 ++ [V.ref T7]).set us1.length (.ref T11))) = H12 at *
      have t412 := TS.trans t48 t812
      have hpl12 := tsTup t412 hpl4
      have hR12 := tsTup t412 hR4
      have hRd12 : Din K H12 (.ref ra) (Rs.hd (.loop wd ws rb2 t)) := .tup hR12 (.cons (.str _) (.cons (dinTS t412 (pureSum _) k1) (.cons (dinTS t412 (pureSums _) k2) (.cons (.tup (tsTup t412 g3) (dinATS t412 (rsPure _) g4)) .nil))))
      have hbr : Din K H12 (.ref T11) (De.br ⟨ah, j, .loop wd ws rb2 t, fr⟩ (pre.length + done.length + 2 + clen rb2)).d := by
        refine .tup hT12 (.cons (.str _) (.cons (dinPc hpl12) (.cons hRd12 (.cons ?_ .nil))))
        rw [show (us6 ++ [V.ref T7]).length = pre.length + done.length + 2 + clen rb2 by rw [List.length_append, List.length_singleton]; omega]
        exact .int _
      have hU12 := dinSetD (j := us1.length) (dinATS t812 (desPure _) hU8) hbr
      rw [mapSet] at hU12
      have eL : ∀ (A2' : List De) (x1 x2 y1 : De), (((pre ++ (done ++ [x1])) ++ A2' ++ [x2])).set us1.length y1 = pre ++ (done ++ y1 :: (A2' ++ [x2])) := by
        intro A2' x1 x2 y1
        rw [show ((pre ++ (done ++ [x1])) ++ A2' ++ [x2]) = (pre ++ done) ++ x1 :: (A2' ++ [x2]) by simp, setMid (by rw [List.length_append]; omega)]
        simp
      rw [eL] at hU12
      refine ⟨_, t, _, _, _, _, _, _, rfl, b12, hL12, hU12, ?_, ?_, by omega⟩
      · rw [← List.drop_drop, edr]; rfl
      · rw [eco]
        have l1 : pre.length + (done ++ [De.row ⟨ah, j, .loop wd ws rb2 t, fr⟩]).length = pre.length + done.length + 1 := by simp; omega
        simp [codeR, codeR_len, l1]
        rw [show pre.length + (done.length + 1) = pre.length + done.length + 1 by omega, show us1.length = pre.length + done.length by omega, show pre.length + (done.length + (clen rb2 + 1 + 1)) = pre.length + done.length + 2 + clen rb2 by omega]
  · obtain ⟨us1, rs, done, y3, y4, y5, y6, y7, rfl, b1, hL1, hU1, edr, eco, hdp⟩ := z
    have : rs = .nil := by
      cases rs with
      | nil => rfl
      | _ =>
        have := congrArg List.length edr
        simp [Rs.ds] at this
        omega
    subst this
    rw [codeR, List.append_nil] at eco
    refine q us1 H1 b1 hL1 ?_
    rw [eco]
    exact hU1

end

end LW

namespace LW
open PySem PySem.Spec PyProof.Rows L2
local macro_rules | `(tactic| walk_at "go1") => `(tactic| first
  | refine ⟨_, rfl, ?_⟩
  | refine ⟨_, _, rfl, rfl, ?_⟩
  | refine ⟨show (0 : Int) < _ from by omega, ?_⟩
  | refine ⟨show CMul _ _ from by first | exact .inl ⟨by omega, by omega⟩ | exact .inr ⟨by omega, by omega⟩, ?_⟩
  | refine ⟨show CDiv _ _ from ⟨by omega, by omega⟩, ?_⟩)
local macro_rules | `(tactic| walk_at "go") => `(tactic| repeat walk_at "go1")

section
variable {P : Program} {w : World} {K : PySem.W.Frag} {mg : Str → Option Value} {base : Heap}

theorem unit_N {m b : Nat} {n more : Int} (h : b < m) : unitOf m b n more = (unitN n b m, more) := by
  unfold unitOf unitN
  congr 1
  refine List.ext_getElem (by simp) fun j h1 h2 => ?_
  simp only [List.getElem_set, List.getElem_map, List.getElem_range, List.getElem_replicate]
  by_cases e : b = j
  · rw [if_pos e, if_pos e.symm]
  · rw [if_neg e, if_neg (fun z => e z.symm)]
abbrev s__law_asked : Stmt := topS 49
theorem sc__law_asked : FnScope ["_law_row_here", "_law_tops_here", "_law_words", "_law_k"] ["_law_row_here", "_law_tops_here"] (defScope s__law_asked) := ⟨rfl, rfl, rfl, by decide +kernel, rfl, by decide +kernel, by decide +kernel⟩

def spLAsk (K : PySem.W.Frag) : Sp := fun vs H Q _ => ∃ (rv : V) (tl : Addr) (tops : List Int) (rs : Rs), vs = [rv, .ref tl] ∧ Din K H rv rs.hd ∧ H tl = some (.lst (tops.map V.int)) ∧ ((∃ w t, rs = .say w t) ∨ ∃ w ws b t, rs = .loop w ws b t ∧ ws.length ≤ 3) ∧ tops.length ≤ 3 ∧
  ∀ (l : Addr) (us : List V) (H' : Hp), H l = none → Same H H' → H' l = some (.lst us) → A2 (SumIn K H') us (askP tops rs) → Q (.ref l) H'
theorem ok__law_asked {f : Addr} {fd : FuncData} {k : Nat} (F : Fun K "_law_asked" "_law_asked" s__law_asked f fd) (B : Bl mg) (c__law_unit : C8.Cal P w K mg base k "_law_unit" (spUnit K) []) : FnOk P w K mg base CX0 (k + 1) f fd ["_law_row_here", "_law_tops_here"] (spLAsk K) := by
  refine F.ok sc__law_asked (fun vs H Q E h => ?_) (fun cdv A outer s H vs Q E hr h => ?_)
  · obtain ⟨rv, tl, tops, rs, rfl, _⟩ := h
    rfl
  obtain ⟨rv, tl, tops, rs, rfl, hv, htl, hk, ht3, q⟩ := h
  refine ⟨_, (pss_cons (ps_if (pt_cmpR op_eq (pe_ix (kIxT (K := K) rfl) (pv 0) pe_int (fun _ _ => rfl)) pe_str (nomark _))
      (pss_one (ps_ret (pe_lst (pa_cons (pe_ix (kIxT (K := K) rfl) (pv 0) pe_int (fun _ _ => rfl)) pa_nil))))
      pss_nil)
    (pss_cons (ps_set (i := 2) sc__law_asked.nd rfl (.inl rfl) (pe_callTy (kList (K := K) rfl) (by rfl) B.list (by decide +kernel) (pa_cons (pe_ix (kIxT (K := K) rfl) (pv 0) pe_int (fun _ _ => rfl)) pa_nil)))
    (pss_cons (ps_for PassesOwn.never rfl (pi_range1 (by rfl) B.range (pa_cons (pe_callB (kLen (K := K) rfl) (by rfl) B.len PySem.boot_len (pa_cons (pv 1) pa_nil)) pa_nil)) (pg_name (i := 3) sc__law_asked.nd rfl (.inl rfl))
      (pss_cons (ps_expr (pe_bm PySem.F.plainAttrs_list PySem.F.slot_list_append PySem.F.type_list_append mt_append (pv 2) (pa_cons (C8.pe_c c__law_unit hr (Nat.le_refl _) (by rfl) (pa_cons (pe_callB (kLen (K := K) rfl) (by rfl) B.len PySem.boot_len (pa_cons (pv 1) pa_nil)) (pa_cons (pv 3) (pa_cons (pe_un un_neg pe_int) (pa_cons pe_int pa_nil))))) pa_nil)))
      (pss_one (ps_expr (pe_bm PySem.F.plainAttrs_list PySem.F.slot_list_append PySem.F.type_list_append mt_append (pv 2) (pa_cons (C8.pe_c c__law_unit hr (Nat.le_refl _) (by rfl) (pa_cons (pe_callB (kLen (K := K) rfl) (by rfl) B.len PySem.boot_len (pa_cons (pv 1) pa_nil)) (pa_cons (pv 3) (pa_cons pe_int (pa_cons (pe_un un_neg (pe_ix (kIxL (K := K) rfl) (pv 1) (pv 3) (fun _ _ => rfl))) pa_nil))))) pa_nil))))))
    (pss_one (ps_ret (pv 2)))))), ?_⟩
  have szl : (1000 : Nat) < sizeLine := by decide
  rcases hk with ⟨w, t, rfl⟩ | ⟨w, ws, b, t, rfl, lws⟩
  · cases hv with
    | @tup ra rx _ hR hRA =>
    cases hRA with
    | cons k0 kA =>
    cases k0
    cases kA with
    | cons k1 kA =>
    cases kA
    refine ⟨_, rfl, _, _, _, _, rfl, rfl, hR, atI_nat (j := 0) rfl, rfl, _, rfl, ?_⟩
    rw [decide_eq_true (strEq.mpr rfl)]
    refine iteT ⟨_, rfl, _, _, _, _, rfl, rfl, hR, atI_nat (j := 1) rfl, by show 1 ≤ sizeLine; decide, fun l nl => ?_⟩
    exact q l _ _ nl (sameNew nl) upd_same (.cons (SumIn.mono (sameNew nl) (sumDin k1)) .nil)
  · cases hv with
    | @tup ra rx _ hR hRA =>
    cases hRA with
    | cons k0 kA =>
    cases k0
    cases kA with
    | cons k1 kA =>
    cases kA with
    | cons k2 kA =>
    cases k2 with
    | @tup wa wx _ hWT hWA =>
    have hWs := sumsDin hWA
    have lwx := hWs.len
    refine ⟨_, rfl, _, _, _, _, rfl, rfl, hR, atI_nat (j := 0) rfl, rfl, _, rfl, ?_⟩
    rw [decide_eq_false (fun c => absurd (show ("loop" : Str) = "say" from strEq.mp c) (by decide +kernel))]
    refine iteF ?_
    refine ⟨_, rfl, _, _, _, _, rfl, rfl, hR, atI_nat (j := 2) rfl, wa, wx, rfl, .inr hWT, fun L nL => ?_⟩
    have sL := sameNew (o := .lst wx) nL
    have htl3 := sL _ _ htl
    have hL3 : upd H L (.lst wx) L = some (.lst wx) := upd_same
    have hU3 := sumsS (tsOf sL) hWs
    have nLt : tl ≠ L := fun e => by rw [← e, htl] at nL; cases nL
    generalize upd H L (.lst wx) = H3 at *
    refine ⟨_, rfl, _, _, rfl, .inl (.of htl3), _, rfl, by rw [List.length_map]; omega, by rw [List.length_map]; omega, ?_⟩
    refine for_range (lo := 0) (n := (tops.map V.int).length) (fun j σ H' => ∃ (us : List V) (y3 : Option V), σ = [some (.ref ra), some (.ref tl), some (.ref L), y3] ∧ Same H H' ∧ H' tl = some (.lst (tops.map V.int)) ∧ H' L = some (.lst us) ∧ A2 (SumIn K H') us (ws ++ bnd' tops.length (tops.take j)))
      ⟨wx, none, rfl, sL, htl3, hL3, by simpa [bnd'] using hU3⟩ (fun j σ H4 hj z => ?_) (fun σ H4 z => ?_)
    · obtain ⟨us, y3, rfl, sm, ht, hl, hu⟩ := z
      have hj1 : j < tops.length := by simpa using hj
      have ltm : (tops.map V.int).length = tops.length := List.length_map _
      have lus := hu.len
      have lb : (bnd' tops.length (tops.take j)).length ≤ 6 := by
        have : (bnd' tops.length (tops.take j)).length = 2 * (tops.take j).length := by
          rw [show bnd' tops.length (tops.take j) = (tops.take j).zipIdx.flatMap fun q => [((unitN (-1) q.2 tops.length, 0) : Sm), (unitN 1 q.2 tops.length, -q.1)] from rfl, bnd_key, List.length_zipIdx]
        rw [this, List.length_take]
        omega
      rw [List.length_append] at lus
      have ej : ((0 : Int) + (j : Int)).toNat = j := by omega
      refine ⟨_, rfl, .inl ⟨rfl, _, .of hl⟩, _, rfl, _, _, rfl, .inl (.of ht), _, rfl, _, rfl, (tops.map V.int).length, _, -1, 0, rfl, by omega, by omega, by omega, fun H5 v s5 hv => ?_⟩
      refine ⟨L, us, _, rfl, rfl, s5 _ _ hl, by omega, ?_⟩
      rw [ej, ltm, unit_N hj1] at hv
      have hl5 := s5 _ _ hl
      have t6 : TS H4 (upd H5 L (.lst (us ++ [v]))) := TS.trans (tsOf s5) (tsLst hl5)
      have hv6 := tsSum (tsLst (ys := us ++ [v]) hl5) hv
      have ht6 : upd H5 L (.lst (us ++ [v])) tl = some (.lst (tops.map V.int)) := by rw [upd_ne nLt]; exact s5 _ _ ht
      have hl6 : upd H5 L (.lst (us ++ [v])) L = some (.lst (us ++ [v])) := upd_same
      have sm6 : Same H (upd H5 L (.lst (us ++ [v]))) := sameMut (Same.trans sm s5) nL
      have hu6 := sumsS t6 hu
      generalize upd H5 L (.lst (us ++ [v])) = H6 at *
      refine ⟨_, rfl, .inl ⟨rfl, _, .of hl6⟩, _, rfl, _, _, rfl, .inl (.of ht6), _, rfl, _, rfl, _, rfl, _, _, _, _, rfl, rfl, .of ht6, at_of (by omega) (intAt hj1), ?_⟩
      refine ⟨_, rfl, (tops.map V.int).length, _, 1, _, rfl, by omega, by omega, by omega, fun H7 v2 s7 hv2 => ?_⟩
      refine ⟨L, us ++ [v], _, rfl, rfl, s7 _ _ hl6, by rw [List.length_append, List.length_singleton]; omega, ?_⟩
      rw [ej, ltm, unit_N hj1] at hv2
      have hl7 := s7 _ _ hl6
      have t8 : TS H6 (upd H7 L (.lst (us ++ [v] ++ [v2]))) := TS.trans (tsOf s7) (tsLst hl7)
      refine ⟨us ++ [v] ++ [v2], _, rfl, sameMut (Same.trans sm6 s7) nL, by rw [upd_ne nLt]; exact s7 _ _ ht6, upd_same, ?_⟩
      rw [bnd_take (List.getElem?_eq_getElem hj1), ← List.append_assoc]
      have h2 := (sumsS t8 hu6).app (.cons (tsSum t8 hv6) (.cons (tsSum (tsLst hl7) hv2) .nil))
      rw [show us ++ [v, v2] = us ++ [v] ++ [v2] by simp] at h2
      exact h2
    · obtain ⟨us, y3, rfl, sm, ht, hl, hu⟩ := z
      rw [List.length_map, List.take_length, ← bnd_eq] at hu
      exact ⟨_, rfl, q L us H4 nL sm hl hu⟩

abbrev s__law_turned : Stmt := topS 51
theorem sc__law_turned : FnScope ["_law_one", "_law_number"] ["_law_one"] (defScope s__law_turned) := ⟨rfl, rfl, rfl, by decide +kernel, rfl, by decide +kernel, by decide +kernel⟩

theorem ok__law_turned {f : Addr} {fd : FuncData} {k : Nat} (F : Fun K "_law_turned" "_law_turned" s__law_turned f fd) (B : Bl mg) : FnOk P w K mg base CX0 (k + 1) f fd ["_law_one"] (spOpp K) := by
  refine F.ok sc__law_turned (fun vs H Q E h => ?_) (fun cdv A outer s H vs Q E hr h => ?_)
  · obtain ⟨v, s, rfl, _⟩ := h
    rfl
  obtain ⟨v, ⟨ns, m⟩, rfl, ⟨a, t, rfl, h1, h2⟩, hz, q⟩ := h
  dsimp only at h1 h2 hz q
  refine ⟨_, (pss_one (ps_ret (pe_tup (pa_cons (pe_callTy (kTup (K := K) rfl) (by rfl) B.tuple (by decide +kernel) (pa_cons (pe_lc (own := [("_law_number", 1)]) rfl sc__law_turned.nd (kTup_ (K := K) rfl (pe_ix (kIxT (K := K) rfl) (pv 0) pe_int (fun _ _ => rfl))) (blkOk_by (own := [("_law_number", 1)]) (N := ["_law_one", "_law_number"]) (sc := defScope s__law_turned) (by decide +kernel)) (fun _ _ _ _ _ => (pgN (i := 1) sc__law_turned.nd rfl (.inl rfl) (.inr rfl))) (fun _ _ _ _ _ => pts_nil) (fun _ _ _ _ _ => (pe_un un_neg (pv 1)))) pa_nil)) (pa_cons (pe_op op_sub pe_int (pe_ix (kIxT (K := K) rfl) (pv 0) pe_int (fun _ _ => rfl))) pa_nil))))), ?_⟩
  refine ⟨_, rfl, _, _, _, _, rfl, rfl, h1, atI_nat (j := 0) rfl, t, rfl, ⟨_, h2⟩, fun D nD => ?_⟩
  refine lc_it walk_tup (Made H D (RI fun i => -(ns[i]?.getD 0))) (made0 nD) (fun i H1 _ p => tupS p.same h2) (fun i x H1 H2 hi p y => ?_) (fun H1 p => ?_)
  · obtain ⟨rfl, e1⟩ := y
    have hi' : i < ns.length := by simpa using hi
    have f1 := mapAt e1 hi'
    subst f1
    refine ⟨rfl, ?_⟩
    refine lcYes ?_
    refine ⟨_, rfl, _, rfl, ?_⟩
    exact p.push nD (stRI _) (by omega) (Same.refl _) (by simp [RI, hi'])
  · obtain ⟨g, sm⟩ := madeRI p
    refine ⟨_, _, rfl, .inl ⟨.of g, fun T nT => ⟨_, rfl, _, _, _, _, rfl, rfl, tupS (Same.trans sm (sameNew nT)) h1, atI_nat (j := 1) rfl, _, _, rfl, rfl, by show 2 ≤ sizeLine; decide, fun U nU => ?_⟩⟩⟩
    refine q _ _ (Same.trans sm (Same.trans (sameNew nT) (sameNew nU))) ⟨U, T, rfl, .of upd_same, ?_⟩
    refine tupS (sameNew nU) (.of ?_)
    rw [upd_same, List.length_map]
    congr 3
    apply List.ext_getElem?
    intro j
    by_cases hj : j < ns.length
    · simp [hj]
    · simp [hj]
/-- the first k of a sum put in -/
def pInK (s : Sm) (bs : List Sm) (k j : Nat) : Int := dot (s.1.take k) ((bs.map fun b => b.1[j]?.getD 0).take k)
abbrev s__law_put_in : Stmt := topS 50
theorem sc__law_put_in : FnScope ["_law_one", "_law_boxes", "_law_numbers", "_law_more", "_law_k", "_law_j"] ["_law_one", "_law_boxes"] (defScope s__law_put_in) := ⟨rfl, rfl, rfl, by decide +kernel, rfl, by decide +kernel, by decide +kernel⟩

def spLPut (K : PySem.W.Frag) : Sp := fun vs H Q _ => ∃ (v : V) (bl : Addr) (s : Sm) (bvs : List V) (bs : List Sm), vs = [v, .ref bl] ∧ SumIn K H v s ∧ H bl = some (.lst bvs) ∧ A2 (SumIn K H) bvs bs ∧ s.1.length = bs.length ∧ 1 ≤ bs.length ∧ bs.length ≤ 3 ∧ (∀ b ∈ bs, b.1.length = bs.length ∧ Wd 1000 b.2 ∧ ∀ x ∈ b.1, Wd 1000 x) ∧ (∀ n ∈ s.1, Wd 1000 n) ∧
  ∀ H' v', Same H H' → SumIn K H' v' (pIn s bs) → Q v' H'
theorem ok__law_put_in {f : Addr} {fd : FuncData} {k : Nat} (F : Fun K "_law_put_in" "_law_put_in" s__law_put_in f fd) (B : Bl mg) : FnOk P w K mg base CX0 (k + 1) f fd ["_law_one", "_law_boxes"] (spLPut K) := by
  refine F.ok sc__law_put_in (fun vs H Q E h => ?_) (fun cdv A outer s H vs Q E hr h => ?_)
  · obtain ⟨v, bl, s, bvs, bs, rfl, _⟩ := h
    rfl
  obtain ⟨v, bl, ⟨ns, m⟩, bvs, bs, rfl, ⟨a, t, rfl, h1, h2⟩, hB, hS, hl, hp1, hp3, hb, hn, q⟩ := h
  dsimp only at h1 h2 hl hn q
  refine ⟨_, (pss_cons (ps_set (i := 2) sc__law_put_in.nd rfl (.inl rfl) (pe_op op_rep (pe_lst (pa_cons pe_int pa_nil)) (pe_callB (kLen (K := K) rfl) (by rfl) B.len PySem.boot_len (pa_cons (pv 1) pa_nil))))
    (pss_cons (ps_set (i := 3) sc__law_put_in.nd rfl (.inl rfl) (pe_ix (kIxT (K := K) rfl) (pv 0) pe_int (fun _ _ => rfl)))
    (pss_cons (ps_for PassesOwn.never rfl (pi_range1 (by rfl) B.range (pa_cons (pe_callB (kLen (K := K) rfl) (by rfl) B.len PySem.boot_len (pa_cons (pv 1) pa_nil)) pa_nil)) (pg_name (i := 4) sc__law_put_in.nd rfl (.inl rfl))
      (pss_cons (ps_set (i := 3) sc__law_put_in.nd rfl (.inl rfl) (pe_op op_add (pv 3) (pe_op op_mulW (pe_ix (kIxT (K := K) rfl) (pe_ix (kIxT (K := K) rfl) (pv 0) pe_int (fun _ _ => rfl)) (pv 4) (fun _ _ => rfl)) (pe_ix (kIxT (K := K) rfl) (pe_ix (kIxL (K := K) rfl) (pv 1) (pv 4) (fun _ _ => rfl)) pe_int (fun _ _ => rfl)))))
      (pss_one (ps_for PassesOwn.never rfl (pi_range1 (by rfl) B.range (pa_cons (pe_callB (kLen (K := K) rfl) (by rfl) B.len PySem.boot_len (pa_cons (pv 1) pa_nil)) pa_nil)) (pg_name (i := 5) sc__law_put_in.nd rfl (.inl rfl))
        (pss_one (ps_asg (pe_op op_add (pe_ix (kIxL (K := K) rfl) (pv 2) (pv 5) (fun _ _ => rfl)) (pe_op op_mulW (pe_ix (kIxT (K := K) rfl) (pe_ix (kIxT (K := K) rfl) (pv 0) pe_int (fun _ _ => rfl)) (pv 4) (fun _ _ => rfl)) (pe_ix (kIxT (K := K) rfl) (pe_ix (kIxT (K := K) rfl) (pe_ix (kIxL (K := K) rfl) (pv 1) (pv 4) (fun _ _ => rfl)) pe_int (fun _ _ => rfl)) (pv 5) (fun _ _ => rfl)))) (pg_sub (pv 2) (pv 5) set_list)))))))
    (pss_one (ps_ret (pe_tup (pa_cons (pe_callTy (kTup (K := K) rfl) (by rfl) B.tuple (by decide +kernel) (pa_cons (pv 2) pa_nil)) (pa_cons (pv 3) pa_nil)))))))), ?_⟩
  have lb := hS.len
  have szl : (1000 : Nat) ≤ sizeLine := by decide
  refine ⟨by show 1 ≤ sizeLine; decide, fun L nL => ?_⟩
  have nbl : bl ≠ L := fun e => by rw [← e, hB] at nL; cases nL
  have sL := sameNew (o := .lst [.int 0]) nL
  have hB1 := sL _ _ hB
  refine ⟨_, rfl, _, _, rfl, .inl (.of hB1), L, _, _, rfl, rfl, upd_same, by omega, by omega, by simp; omega, fun D nD => ?_⟩
  have sD := sameNew (o := .lst ((List.replicate ((bvs.length : Int)).toNat [V.int 0]).flatten)) nD
  have s2 := Same.trans sL sD
  have nD0 : H D = none := Same.free sL nD
  have eR : (List.replicate ((bvs.length : Int)).toNat [V.int 0]).flatten = ((List.range bs.length).map fun j => pInK (ns, m) bs 0 j).map V.int := by
    rw [show ((bvs.length : Int)).toNat = bs.length by omega]
    refine List.ext_getElem (by simp) fun j g1 g2 => ?_
    simp [pInK, dot]
  have hD2 : upd (upd H L (.lst [.int 0])) D (.lst ((List.replicate ((bvs.length : Int)).toNat [V.int 0]).flatten)) D = some (.lst (((List.range bs.length).map fun j => pInK (ns, m) bs 0 j).map V.int)) := by rw [upd_same, eR]
  generalize upd (upd H L (.lst [.int 0])) D (.lst ((List.replicate ((bvs.length : Int)).toNat [V.int 0]).flatten)) = H2 at *
  refine ⟨_, rfl, _, _, _, _, rfl, rfl, tupS s2 h1, atI_nat (j := 1) rfl, ?_⟩
  refine ⟨_, rfl, _, _, rfl, .inl (.of (s2 _ _ hB)), _, rfl, by omega, by omega, ?_⟩
  refine for_range (lo := 0) (n := bvs.length) (fun k σ H' => ∃ (y4 y5 : Option V), σ = [some (.ref a), some (.ref bl), some (.ref D), some (.int (m + dot (ns.take k) ((bs.map (·.2)).take k))), y4, y5] ∧ Same H H' ∧ H' D = some (.lst (((List.range bs.length).map fun j => pInK (ns, m) bs k j).map V.int)))
    ⟨none, none, by simp [dot]; rfl, s2, hD2⟩ (fun k σ H3 hk z => ?_) (fun σ H3 z => ?_)
  · obtain ⟨y4, y5, rfl, s3, hD3⟩ := z
    have i0 : k < ns.length := by omega
    have ib : k < bs.length := by omega
    obtain ⟨bv, ebv⟩ : ∃ bv, bvs[k]? = some bv := ⟨_, List.getElem?_eq_getElem hk⟩
    obtain ⟨⟨cn, cm⟩, eb, tb, fb, rfl, g1, g2⟩ := A2.at hS ebv
    have hb1 := hb _ (List.mem_of_getElem? eb)
    dsimp only at g1 g2 hb1
    have ens : ns[k]? = some ns[k] := List.getElem?_eq_getElem i0
    refine ⟨_, rfl, _, rfl, _, _, _, _, rfl, rfl, tupS s3 h1, atI_nat (j := 0) rfl, _, rfl, _, _, _, _, rfl, rfl, tupS s3 h2, at_of (by omega) (intAt i0), _, rfl, _, rfl, _, _, _, _, rfl, rfl, .of (s3 _ _ hB), at_of (by omega) ebv, _, _, _, _, rfl, rfl, tupS s3 g1, atI_nat (j := 1) rfl, ?_⟩
    refine ⟨_, _, rfl, rfl, Wd.mulOk (hn _ (List.getElem_mem _)) hb1.2.1 (by decide) (by decide) (by decide), _, _, rfl, rfl, ?_⟩
    refine ⟨_, rfl, _, _, rfl, .inl (.of (s3 _ _ hB)), _, rfl, by omega, by omega, ?_⟩
    have emore : m + dot (ns.take k) ((bs.map (·.2)).take k) + ns[k] * cm = m + dot (ns.take (k + 1)) ((bs.map (·.2)).take (k + 1)) := by
      rw [dot_take ens (show (bs.map (·.2))[k]? = some cm by rw [List.getElem?_map, eb]; rfl), Int.add_assoc]
    have estep : ∀ j, pInK (ns, m) bs (k + 1) j = pInK (ns, m) bs k j + ns[k] * (cn[j]?.getD 0) := fun j => by
      unfold pInK
      exact dot_take ens (by rw [List.getElem?_map, eb]; rfl)
    refine for_range (lo := 0) (n := bvs.length) (fun j σ H' => ∃ (y5 : Option V), σ = [some (.ref a), some (.ref bl), some (.ref D), some (.int (m + dot (ns.take k) ((bs.map (·.2)).take k) + ns[k] * cm)), some (.int (0 + (k : Int))), y5] ∧ Same H H' ∧ H' D = some (.lst (((List.range bs.length).map fun i => if i < j then pInK (ns, m) bs (k + 1) i else pInK (ns, m) bs k i).map V.int)))
      ⟨y5, rfl, s3, by simpa using hD3⟩ (fun j σ H4 hj z => ?_) (fun σ H4 z => ?_)
    · obtain ⟨y5, rfl, s4, hD4⟩ := z
      have jb : j < bs.length := by omega
      have ej : ((List.range bs.length).map fun i => if i < j then pInK (ns, m) bs (k + 1) i else pInK (ns, m) bs k i)[j]? = some (pInK (ns, m) bs k j) := by
        rw [List.getElem?_map, List.getElem?_range jb]
        simp
      have ej2 : (((List.range bs.length).map fun i => if i < j then pInK (ns, m) bs (k + 1) i else pInK (ns, m) bs k i).map V.int)[j]? = some (.int (pInK (ns, m) bs k j)) := by rw [List.getElem?_map, ej]; rfl
      have jc : j < cn.length := by rw [hb1.1]; exact jb
      refine ⟨_, rfl, _, rfl, _, _, _, _, rfl, rfl, .of hD4, at_of (by omega) ej2, _, rfl, _, _, _, _, rfl, rfl, tupS s4 h1, atI_nat (j := 0) rfl, _, rfl, _, _, _, _, rfl, rfl, tupS s4 h2, at_of (by omega) (intAt i0), _, rfl, _, rfl, _, _, _, _, rfl, rfl, .of (s4 _ _ hB), at_of (by omega) ebv, _, _, _, _, rfl, rfl, tupS s4 g1, atI_nat (j := 0) rfl, _, rfl, _, _, _, _, rfl, rfl, tupS s4 g2, at_of (by omega) (intAt jc), ?_⟩
      refine ⟨_, _, rfl, rfl, Wd.mulOk (hn _ (List.getElem_mem _)) (hb1.2.2 _ (List.getElem_mem _)) (by decide) (by decide) (by decide), _, _, rfl, rfl, ?_⟩
      refine ⟨_, rfl, _, rfl, D, _, _, j, rfl, rfl, hD4, ?_, ?_⟩
      · unfold ixN
        rw [if_pos (by omega), if_pos (by simp; omega)]
        congr 1
        omega
      refine ⟨_, rfl, sameMut s4 nD0, ?_⟩
      rw [upd_same]
      congr 2
      refine List.ext_getElem (by simp) fun i q1 q2 => ?_
      simp only [List.getElem_set, List.getElem_map, List.getElem_range]
      by_cases e : j = i
      · subst e
        rw [if_pos rfl, if_pos (Nat.lt_succ_self _), estep, List.getElem?_eq_getElem jc]
        rfl
      · rw [if_neg e]
        by_cases c : i < j
        · rw [if_pos c, if_pos (by omega)]
        · rw [if_neg c, if_neg (by omega)]
    · obtain ⟨y5, rfl, s4, hD4⟩ := z
      rw [emore]
      refine ⟨_, _, rfl, s4, ?_⟩
      rw [hD4]
      congr 3
      refine List.map_congr_left fun i hi => ?_
      rw [if_pos (by have := List.mem_range.mp hi; omega)]
  · obtain ⟨y4, y5, rfl, s3, hD3⟩ := z
    refine ⟨_, rfl, _, _, rfl, .inl ⟨.of hD3, fun T nT => ⟨_, rfl, by show 2 ≤ sizeLine; decide, fun U nU => ?_⟩⟩⟩
    refine q _ _ (Same.trans s3 (Same.trans (sameNew nT) (sameNew nU))) ⟨U, T, rfl, ?_, ?_⟩
    · have e2 : m + dot (ns.take bvs.length) ((bs.map (·.2)).take bvs.length) = (pIn (ns, m) bs).2 := by
        rw [List.take_of_length_le (by omega), List.take_of_length_le (by simp; omega)]
        rfl
      rw [← e2]
      exact .of upd_same
    · refine tupS (sameNew nU) (.of ?_)
      rw [upd_same]
      congr 3
      unfold pInK
      rw [List.take_of_length_le (l := ns) (by omega)]
      refine List.map_congr_left fun i hi => ?_
      rw [List.take_of_length_le (by simp; omega)]

end

end LW

namespace LW
open PySem PySem.Spec PyProof.Rows L2
local macro_rules | `(tactic| walk_at "go1") => `(tactic| first
  | refine ⟨_, rfl, ?_⟩
  | refine ⟨_, _, rfl, rfl, ?_⟩
  | refine ⟨show (0 : Int) < _ from by omega, ?_⟩
  | refine ⟨show CMul _ _ from by first | exact .inl ⟨by omega, by omega⟩ | exact .inr ⟨by omega, by omega⟩, ?_⟩
  | refine ⟨show CDiv _ _ from ⟨by omega, by omega⟩, ?_⟩)
local macro_rules | `(tactic| walk_at "go") => `(tactic| repeat walk_at "go1")

section
variable {P : Program} {w : World} {K : PySem.W.Frag} {mg : Str → Option Value} {base : Heap}

/-- a way as the law holds it -/
def LWay (K : PySem.W.Frag) (H : Hp) (v : V) (beg : List Nat) (st : St') : Prop := ∃ (t ba tr wl bl : Addr) (wvs bvs : List V), v = .ref t ∧ SqT K H t [.ref ba, .ref tr, .int (st.many : Int), .ref wl, .ref bl] ∧ SqT K H ba (nats beg) ∧ SqT K H tr (st.truths.map V.bl) ∧ H wl = some (.lst wvs) ∧ A2 (SumIn K H) wvs st.words ∧ H bl = some (.lst bvs) ∧ A2 (SumIn K H) bvs st.boxes
theorem LWay.same {H H' : Hp} {v : V} {beg : List Nat} {st : St'} (e : Same H H') (h : LWay K H v beg st) : LWay K H' v beg st := by
  obtain ⟨t, ba, tr, wl, bl, wvs, bvs, e0, h1, h2, h3, h4, h5, h6, h7⟩ := h
  exact ⟨t, ba, tr, wl, bl, wvs, bvs, e0, tupS e h1, tupS e h2, tupS e h3, e _ _ h4, sumsS (tsOf e) h5, e _ _ h6, sumsS (tsOf e) h7⟩
def TkD (K : PySem.W.Frag) (H : Hp) (v : V) (t : Tk) : Prop := ∃ w, TkA K [] H v (t, w)
theorem TkD.same {H H' : Hp} {v : V} {t : Tk} (e : Same H H') (h : TkD K H v t) : TkD K H' v t := by
  obtain ⟨w, h⟩ := h
  exact ⟨w, h.same e⟩
theorem tkdS {H H' : Hp} {vs : List V} {xs : List Tk} (e : Same H H') (h : A2 (TkD K H) vs xs) : A2 (TkD K H') vs xs := A2.map (B' := xs) (fun _ _ _ r => r.same e) (fun _ m => m) h
def isLoopR : Rs → Bool
  | .loop .. => true
  | _ => false
/-- what the law finds from there -/
def resF (tops : List Int) (beg : List Nat) (o : Option Pos') (st : St') : List Tk := match o with
  | none => []
  | some p => if isLoopR p.rs = true ∧ st.many = 0 ∧ beg = p.at_ then (oways (p.go true) (st.turn (wordOf p.rs) true) ++ oways (p.go false) (st.turn (wordOf p.rs) false)).flatMap (tkArr tops beg) else (p.ways st).flatMap (tkArr tops beg)
theorem resF_many {tops : List Int} {beg : List Nat} {o : Option Pos'} {st : St'} (h : st.many ≠ 0) : resF tops beg o st = (oways o st).flatMap (tkArr tops beg) := by
  cases o with
  | none => rfl
  | some p => simp [resF, h, oways]
def restV (p : Pos') (e : Nat) : List V := match p.rs with
  | .ite _ a _ _ => [.int ((e + 2 + clen a : Nat) : Int)]
  | .loop _ _ b _ => [.int ((e + 2 + clen b : Nat) : Int)]
  | _ => []
theorem pcNats {H : Hp} {a : Addr} {xs : List V} {pl : List Nat} (h : SqT K H a xs) (t : DinA K H xs (pl.map fun n : Nat => D.int (n : Int))) : SqT K H a (nats pl) := by
  have e : ∀ {xs : List V} {pl : List Nat}, DinA K H xs (pl.map fun n : Nat => D.int (n : Int)) → xs = nats pl := by
    intro xs pl
    induction pl generalizing xs with
    | nil => intro t; cases t; rfl
    | cons n r ih =>
      intro t
      cases t with
      | cons h t =>
      cases h
      rw [ih t]
      rfl
  rw [← e t]
  exact h
theorem deIn {H : Hp} {v : V} {p : Pos'} {e : Nat} (n : p.rs.isNil = false) (h : Din K H v (deAt p e).d) : ∃ da pla rv, v = .ref da ∧ SqT K H da ([.str p.rs.kind, .ref pla, rv] ++ restV p e) ∧ SqT K H pla (nats (p.ah ++ [p.i])) ∧ Din K H rv p.rs.hd := by
  obtain ⟨ah, i, rs, fr⟩ := p
  cases rs with
  | nil => cases n
  | _ =>
    cases h with
    | @tup da dx _ h1 h2 =>
    cases h2 with
    | cons k0 h2 =>
    cases k0
    cases h2 with
    | cons k1 h2 =>
    cases k1 with
    | @tup pla px _ p1 p2 =>
    cases h2 with
    | cons k2 h2 =>
    first
    | (cases h2; exact ⟨_, _, _, rfl, h1, pcNats p1 p2, k2⟩)
    | (cases h2 with
       | cons k3 h2 =>
       cases k3
       cases h2
       exact ⟨_, _, _, rfl, h1, pcNats p1 p2, k2⟩)
theorem kindJump {rs : Rs} (n : rs.isNil = false) : rs.kind ≠ "jump" := by
  cases rs with
  | nil => cases n
  | _ => simp only [Rs.kind]; decide +kernel
theorem eqvAllN : ∀ a b : List Nat, PyData.eqvAll (a.map fun n : Nat => PyData.int (n : Int)) (b.map fun n : Nat => PyData.int (n : Int)) = decide (a = b)
  | [], [] => by simp [PyData.eqvAll]
  | [], _ :: _ => by simp [PyData.eqvAll]
  | _ :: _, [] => by simp [PyData.eqvAll]
  | x :: r, y :: t => by
    have ih := eqvAllN r t
    simp only [List.map_cons, PyData.eqvAll, ih, PyData.eqv]
    by_cases e : x = y
    · subst e; simp
    · simp [e]
      intro z
      omega
theorem eqvPl (a b : List Nat) : PyData.eqv (dPl a) (dPl b) = decide (a = b) := by
  rw [← eqvAllN a b]
  simp [dPl, PyData.eqv]
def TkF (K : PySem.W.Frag) (F : Addr) (H : Hp) (v : V) (t : Tk) : Prop := ∃ w, TkA K [F] H v (t, w)
theorem tkfS {F : Addr} {H H' : Hp} {vs : List V} {xs : List Tk} (e : Same H H') (h : A2 (TkF K F H) vs xs) : A2 (TkF K F H') vs xs := A2.map (B' := xs) (fun _ _ _ r => r.imp fun w h => h.same e) (fun _ m => m) h
theorem tkfMut {F : Addr} {H : Hp} {zs ys : List V} {vs : List V} {xs : List Tk} (e : H F = some (.lst zs)) (h : A2 (TkF K F H) vs xs) : A2 (TkF K F (upd H F (.lst ys))) vs xs := A2.map (B' := xs) (fun _ _ _ r => r.imp fun w h => h.mut (List.mem_singleton.mpr rfl) e) (fun _ m => m) h
theorem tkfD {F : Addr} {H : Hp} {vs : List V} {xs : List Tk} (h : A2 (TkF K F H) vs xs) : A2 (TkD K H) vs xs := A2.map (B' := xs) (fun _ _ _ r => by
  obtain ⟨w, a, sa, tr, pa, wvs, e0, h1, h2, h3, h4, h5, h6, _⟩ := r
  exact ⟨w, a, sa, tr, pa, wvs, e0, h1, h2, h3, h4, h5, h6, fun z => by cases z⟩) (fun _ m => m) h
theorem opp_pIn {w : Sm} {bs : List Sm} : opp (pIn w bs) = pIn (opp w) bs := by
  have hd : ∀ (a c : List Int), dot (a.map fun n => -n) c = -dot a c := by
    intro a
    induction a with
    | nil => intro c; rfl
    | cons x r ih =>
      intro c
      cases c with
      | nil => rfl
      | cons y t =>
        simp only [List.map_cons, dot, ih, Int.neg_add]
        rw [Int.neg_mul]
  unfold opp pIn
  simp only [List.map_map]
  congr 1
  · refine List.map_congr_left fun j _ => ?_
    simp only [Function.comp]
    rw [hd]
  · rw [hd]
    omega
theorem askPK {tops : List Int} {p : Pos'} {st : St'} (h : (∃ w t, p.rs = .say w t) ∨ ∃ w ws b t, p.rs = .loop w ws b t) : askA tops (theArr p st) = askP tops p.rs := by
  obtain ⟨ah, i, rs, fr⟩ := p
  rcases h with ⟨w, t, e⟩ | ⟨w, ws, b, t, e⟩ <;> (dsimp only at e; subst e; simp [askA, theArr, askP])
theorem resF_no {tops : List Int} {beg : List Nat} {p : Pos'} {st : St'} (h : isLoopR p.rs = false) : resF tops beg (some p) st = (p.ways st).flatMap (tkArr tops beg) := by simp [resF, h]
theorem nextOr {t u : TT} {a b rest : L2.TS} {D : L2.Ends} {σ : L2.St} {H : Hp} {r2 : VK} {b2 c2 : L2.St → Hp → Prop} (h : tOr t u σ H (fun k H1 => if k = true then a { nx := rest D, rt := D.rt, bk := D.bk, ct := D.ct } σ H1 else b { nx := rest D, rt := D.rt, bk := D.bk, ct := D.ct } σ H1)) : tNext { nx := tSeq (tIfS (tOr t u) a b) rest D, rt := r2, bk := b2, ct := c2 } σ H := h
theorem resF_loop {tops : List Int} {beg ah : List Nat} {i : Nat} {w : Sm} {ws : List Sm} {b t : Rs} {fr : Fr} {st : St'} (h : ¬ (st.many = 0 ∧ beg = ah ++ [i])) : resF tops beg (some ⟨ah, i, .loop w ws b t, fr⟩) st = tkArr tops beg (theArr ⟨ah, i, .loop w ws b t, fr⟩ st) := by
  unfold resF
  dsimp only
  rw [if_neg (fun z => h ⟨z.2.1, z.2.2⟩)]
  show List.flatMap _ [_] = _
  simp [theArr]
theorem resF_say {tops : List Int} {beg ah : List Nat} {i : Nat} {w : Sm} {t : Rs} {fr : Fr} {st : St'} : resF tops beg (some ⟨ah, i, .say w t, fr⟩) st = tkArr tops beg (theArr ⟨ah, i, .say w t, fr⟩ st) ++ (oways (norm fr t ah (i + 1)) (st.say w)).flatMap (tkArr tops beg) := by
  rw [resF_no rfl, norm_ways]
  show List.flatMap _ (_ :: _) = _
  rw [List.flatMap_cons]
  rfl
/-- a put, what is asked at, or two ways -/
theorem sort3 {rs : Rs} (n : rs.isNil = false) (many : Nat) (beg pl : List Nat) : (∃ b s t, rs = .put b s t) ∨ ((∃ w t, rs = .say w t) ∨ ∃ w ws b t, rs = .loop w ws b t ∧ ¬ (many = 0 ∧ beg = pl)) ∨ ((∃ w a b t, rs = .ite w a b t) ∨ ∃ w ws b t, rs = .loop w ws b t ∧ many = 0 ∧ beg = pl) := by
  cases rs with
  | nil => cases n
  | put b s t => exact .inl ⟨_, _, _, rfl⟩
  | say w t => exact .inr (.inl (.inl ⟨_, _, rfl⟩))
  | ite w a b t => exact .inr (.inr (.inl ⟨_, _, _, _, rfl⟩))
  | loop w ws b t =>
    by_cases c : many = 0 ∧ beg = pl
    · exact .inr (.inr (.inr ⟨_, _, _, _, rfl, c⟩))
    · exact .inr (.inl (.inr ⟨_, _, _, _, rfl, c⟩))
theorem lputUse {H : Hp} {Q : VK} {E : XK} {v : V} {bl : Addr} {s : Sm} {bvs : List V} {bs : List Sm} {n w : Nat} (hv : SumIn K H v s) (hb : H bl = some (.lst bvs)) (hs : A2 (SumIn K H) bvs bs) (ln : bs.length = n) (n1 : 1 ≤ n) (n3 : n ≤ 3) (gb : GoodB n w bs) (hw : w ≤ 1000)
    (hl : s.1.length = n ∧ Wd 9 s.2 ∧ ∀ x ∈ s.1, Wd 9 x) (q : ∀ (H' : Hp) (v' : V), Same H H' → SumIn K H' v' (pIn s bs) → Q v' H') : spLPut K [v, .ref bl] H Q E :=
  ⟨v, bl, s, bvs, bs, rfl, hv, hb, hs, by rw [hl.1, ln], by omega, by omega, fun b hb' => ⟨by rw [ln]; exact (gb b hb').1, (gb b hb').2.1.mono hw, fun x hx => ((gb b hb').2.2 x hx).mono hw⟩, fun x hx => (hl.2.2 x hx).mono (by omega), q⟩
abbrev s__law_from : Stmt := topS 52
theorem sc__law_from : FnScope ["_law_code_here", "_law_at_here", "_law_way", "_law_tops_here", "_law_begin", "_law_truths", "_law_many", "_law_words", "_law_boxes", "_law_word_here", "_law_place", "_law_row_here", "_law_held", "_law_one", "_law_first", "_law_second", "_law_found", "_law_number", "_law_last", "_law_more"] ["_law_code_here", "_law_at_here", "_law_way", "_law_tops_here"] (defScope s__law_from) := ⟨rfl, rfl, rfl, by decide +kernel, rfl, by decide +kernel, by decide +kernel⟩

def spFrom (K : PySem.W.Frag) (i : Nat) : Sp := fun vs H Q _ => ∃ (C tl : Addr) (j : Nat) (wv : V) (cs : List V) (tops : List Int) (R : Rs) (ah : List Nat) (i' : Nat) (rs : Rs) (fr : Fr) (beg : List Nat) (st : St'), vs = [.ref C, .int (j : Int), wv, .ref tl] ∧ H C = some (.lst cs) ∧ DinA K H cs ((codeOf R).map De.d) ∧ H tl = some (.lst (tops.map V.int)) ∧ TopsW tops ∧ R.W tops.length ∧ R.num ≤ 12 ∧ R.dep ≤ 3 ∧ AtC R ah i' rs fr j ∧ LWay K H wv beg st ∧ beg.length ≤ 50 ∧ GoodSt tops.length (mx rs fr.mx + 1) st ∧ mx rs fr.mx < i ∧ (st.many = 0 → 13 < i) ∧ i ≤ 15 ∧
  ∀ (l : Addr) (us : List V) (H' : Hp), H l = none → Same H H' → H' l = some (.lst us) → A2 (TkD K H') us (resF tops beg (norm fr rs ah i') st) → us.length ≤ 10 * 2 ^ i → Q (.ref l) H'
theorem ok__law_from {f : Addr} {fd : FuncData} {k i : Nat} (F : Fun K "_law_from" "_law_from" s__law_from f fd) (B : Bl mg) (c__law_asked : C8.Cal P w K mg base k "_law_asked" (spLAsk K) []) (c__law_put_in : C8.Cal P w K mg base k "_law_put_in" (spLPut K) []) (c__law_turned : C8.Cal P w K mg base k "_law_turned" (spOpp K) []) (c__law_from : C8.Cal P w K mg base k "_law_from" (spFrom K i) []) : FnOk P w K mg base CX0 (k + 1) f fd ["_law_code_here", "_law_at_here", "_law_way", "_law_tops_here"] (spFrom K (i + 1)) := by
  refine F.ok sc__law_from (fun vs H Q E h => ?_) (fun cdv A outer s H vs Q E hr h => ?_)
  · obtain ⟨C, tl, j, wv, cs, tops, R, ah, i', rs, fr, beg, st, rfl, _⟩ := h
    rfl
  obtain ⟨C, tl, j, wv, cs, tops, R, ah, i', rs, fr, beg, st, rfl, hC, hD, htl, hTW, hRW, hN, hdp, hA, hW, hbl, hg, hi, h13, h15, q⟩ := h
  refine ⟨_, (pss_cons (ps_while PassesOwn.never (PW.pt (pw_and (pt_cmpR op_lt (pv 1) (pe_callB (kLen (K := K) rfl) (by rfl) B.len PySem.boot_len (pa_cons (pv 0) pa_nil)) (nomark _)) (pw_and1 (pt_cmpR op_eq (pe_ix (kIxT (K := K) rfl) (pe_ix (kIxL (K := K) rfl) (pv 0) (pv 1) (fun _ _ => rfl)) pe_int (fun _ _ => rfl)) pe_str (nomark _)))))
      (pss_one (ps_set (i := 1) sc__law_from.nd rfl (.inl rfl) (pe_ix (kIxT (K := K) rfl) (pe_ix (kIxL (K := K) rfl) (pv 0) (pv 1) (fun _ _ => rfl)) pe_int (fun _ _ => rfl)))))
    (pss_cons (ps_if (pt_cmpR op_eq (pv 1) (pe_callB (kLen (K := K) rfl) (by rfl) B.len PySem.boot_len (pa_cons (pv 0) pa_nil)) (nomark _))
      (pss_one (ps_ret (pe_lst pa_nil)))
      pss_nil)
    (pss_cons (ps_asg (pv 2) (kTn (K := K) rfl rfl (pgs_cons (pg_name (i := 4) sc__law_from.nd rfl (.inl rfl)) (pgs_cons (pg_name (i := 5) sc__law_from.nd rfl (.inl rfl)) (pgs_cons (pg_name (i := 6) sc__law_from.nd rfl (.inl rfl)) (pgs_cons (pg_name (i := 7) sc__law_from.nd rfl (.inl rfl)) (pgs_cons (pg_name (i := 8) sc__law_from.nd rfl (.inl rfl)) pgs_nil)))))))
    (pss_cons (ps_asg (pe_slice (kSlT (K := K) rfl) (pe_ix (kIxL (K := K) rfl) (pv 0) (pv 1) (fun _ _ => rfl)) po_none (po_some pe_int)) (kTn (K := K) rfl rfl (pgs_cons (pg_name (i := 9) sc__law_from.nd rfl (.inl rfl)) (pgs_cons (pg_name (i := 10) sc__law_from.nd rfl (.inl rfl)) (pgs_cons (pg_name (i := 11) sc__law_from.nd rfl (.inl rfl)) pgs_nil)))))
    (pss_cons (ps_if (pt_cmpR op_eq (pv 9) pe_str (nomark _))
      (pss_cons (ps_set (i := 12) sc__law_from.nd rfl (.inl rfl) (pe_callTy (kList (K := K) rfl) (by rfl) B.list (by decide +kernel) (pa_cons (pv 8) pa_nil)))
      (pss_cons (ps_asg (C8.pe_c c__law_put_in hr (Nat.le_refl _) (by rfl) (pa_cons (pe_ix (kIxT (K := K) rfl) (pv 11) pe_int (fun _ _ => rfl)) (pa_cons (pv 8) pa_nil))) (pg_sub (pv 12) (pe_ix (kIxT (K := K) rfl) (pv 11) pe_int (fun _ _ => rfl)) set_list))
      (pss_one (ps_ret (C8.pe_c c__law_from hr (Nat.le_refl _) (by rfl) (pa_cons (pv 0) (pa_cons (pe_op op_add (pv 1) pe_int) (pa_cons (pe_tup (pa_cons (pv 4) (pa_cons (pv 5) (pa_cons (pe_op op_add (pv 6) pe_int) (pa_cons (pv 7) (pa_cons (pv 12) pa_nil)))))) (pa_cons (pv 3) pa_nil)))))))))
      pss_nil)
    (pss_cons (ps_if (PW.pt (pw_or (pt_cmpR op_eq (pv 9) pe_str (nomark _)) (pw_or1 (PW.pt (pw_and (pt_cmpR op_eq (pv 9) pe_str (nomark _)) (pw_and (pt_cmpR op_eq (pv 6) pe_int (nomark _)) (pw_and1 (pt_cmpR (kEqD (K := K) rfl hr.units) (pv 4) (pv 10) (nomark _)))))))))
      (pss_cons (ps_set (i := 13) sc__law_from.nd rfl (.inl rfl) (C8.pe_c c__law_put_in hr (Nat.le_refl _) (by rfl) (pa_cons (pe_ix (kIxT (K := K) rfl) (pv 11) pe_int (fun _ _ => rfl)) (pa_cons (pv 8) pa_nil))))
      (pss_cons (ps_set (i := 14) sc__law_from.nd rfl (.inl rfl) (pe_tup (pa_cons (pv 4) (pa_cons (pe_op (kCatT (K := K) rfl) (pv 5) (pe_tup (pa_cons pe_bl pa_nil))) (pa_cons (pe_op op_add (pv 6) pe_int) (pa_cons (pe_op op_cat (pv 7) (pe_lst (pa_cons (pv 13) pa_nil))) (pa_cons (pv 8) pa_nil)))))))
      (pss_cons (ps_set (i := 15) sc__law_from.nd rfl (.inl rfl) (pe_tup (pa_cons (pv 4) (pa_cons (pe_op (kCatT (K := K) rfl) (pv 5) (pe_tup (pa_cons pe_bl pa_nil))) (pa_cons (pe_op op_add (pv 6) pe_int) (pa_cons (pe_op op_cat (pv 7) (pe_lst (pa_cons (C8.pe_c c__law_turned hr (Nat.le_refl _) (by rfl) (pa_cons (pv 13) pa_nil)) pa_nil))) (pa_cons (pv 8) pa_nil)))))))
      (pss_one (ps_ret (pe_op op_cat (C8.pe_c c__law_from hr (Nat.le_refl _) (by rfl) (pa_cons (pv 0) (pa_cons (pe_op op_add (pv 1) pe_int) (pa_cons (pv 14) (pa_cons (pv 3) pa_nil))))) (C8.pe_c c__law_from hr (Nat.le_refl _) (by rfl) (pa_cons (pv 0) (pa_cons (pe_ix (kIxT (K := K) rfl) (pe_ix (kIxL (K := K) rfl) (pv 0) (pv 1) (fun _ _ => rfl)) pe_int (fun _ _ => rfl)) (pa_cons (pv 15) (pa_cons (pv 3) pa_nil)))))))))))
      pss_nil)
    (pss_cons (ps_set (i := 16) sc__law_from.nd rfl (.inl rfl) (pe_lst pa_nil))
    (pss_cons (ps_for PassesOwn.never rfl (kE (K := K) rfl false (by rfl) B.enumerate (pa_cons (C8.pe_c c__law_asked hr (Nat.le_refl _) (by rfl) (pa_cons (pv 11) (pa_cons (pv 3) pa_nil))) pa_nil)) (kT2 (K := K) rfl rfl (pg_name (i := 17) sc__law_from.nd rfl (.inl rfl)) (pg_name (i := 13) sc__law_from.nd rfl (.inl rfl)))
      (pss_cons (ps_set (i := 18) sc__law_from.nd rfl (.inl rfl) (C8.pe_c c__law_turned hr (Nat.le_refl _) (by rfl) (pa_cons (C8.pe_c c__law_put_in hr (Nat.le_refl _) (by rfl) (pa_cons (pv 13) (pa_cons (pv 8) pa_nil))) pa_nil)))
      (pss_one (ps_expr (pe_bm PySem.F.plainAttrs_list PySem.F.slot_list_append PySem.F.type_list_append mt_append (pv 16) (pa_cons (pe_tup (pa_cons (pv 4) (pa_cons (pv 5) (pa_cons (pv 10) (pa_cons (pv 17) (pa_cons (pv 6) (pa_cons (pe_op op_cat (pv 7) (pe_lst (pa_cons (pv 18) pa_nil))) pa_nil))))))) pa_nil))))))
    (pss_cons (ps_if (pt_cmpR op_eq (pv 9) pe_str (nomark _))
      (pss_cons (ps_set (i := 19) sc__law_from.nd rfl (.inl rfl) (pe_op op_cat (pv 7) (pe_lst (pa_cons (C8.pe_c c__law_put_in hr (Nat.le_refl _) (by rfl) (pa_cons (pe_ix (kIxT (K := K) rfl) (pv 11) pe_int (fun _ _ => rfl)) (pa_cons (pv 8) pa_nil))) pa_nil))))
      (pss_one (ps_set (i := 16) sc__law_from.nd rfl (.inl rfl) (pe_op op_cat (pv 16) (C8.pe_c c__law_from hr (Nat.le_refl _) (by rfl) (pa_cons (pv 0) (pa_cons (pe_op op_add (pv 1) pe_int) (pa_cons (pe_tup (pa_cons (pv 4) (pa_cons (pv 5) (pa_cons (pe_op op_add (pv 6) pe_int) (pa_cons (pv 19) (pa_cons (pv 8) pa_nil)))))) (pa_cons (pv 3) pa_nil)))))))))
      pss_nil)
    (pss_one (ps_ret (pv 16)))))))))))), ?_⟩
  have szl : (10000000 : Nat) < sizeLine := by decide
  have lcs := hD.len
  rw [List.length_map] at lcs
  refine ⟨fun m σ H' => ∃ (ah1 : List Nat) (i1 : Nat) (rs1 : Rs) (fr1 : Fr) (e : Nat), σ = [some (.ref C), some (.int (e : Int)), some wv, some (.ref tl), none, none, none, none, none, none, none, none, none, none, none, none, none, none, none, none] ∧ H' = H ∧ AtC R ah1 i1 rs1 fr1 e ∧ norm fr1 rs1 ah1 i1 = norm fr rs ah i' ∧ frD fr1 = m, ⟨_, ah, i', rs, fr, j, rfl, rfl, hA, rfl, rfl⟩, ?_⟩
  rintro m σ H1 ⟨ah1, i1, rs1, fr1, e, rfl, rfl, hA1, hn1, hm1⟩
  refine ⟨_, rfl, _, rfl, _, _, rfl, .inl (.of hC), _, _, rfl, rfl, _, rfl, ?_⟩
  rcases codeLook hA1 with ⟨p, hp1, hp2', hp3, hp4⟩ | ⟨hp1, hp2⟩ | ⟨pl, e2, ah2, i2, rs2, fr2, hp1, hp2, hp3, hp4⟩
  · -- at a row
    have le : e < cs.length := by
      have := (List.getElem?_eq_some_iff.mp hp4).1
      omega
    obtain ⟨v, ev, hv⟩ := dinAtD (i := e) (d := (deAt p e).d) hD (by rw [List.getElem?_map, hp4]; rfl)
    obtain ⟨da, pla, rv, rfl, hda, hpla, hrv⟩ := deIn hp3 hv
    rw [decide_eq_true (by omega)]
    refine iteT ⟨_, rfl, _, rfl, _, _, _, _, rfl, rfl, .of hC, atI_nat ev, _, _, _, _, rfl, rfl, hda, atI_nat (j := 0) rfl, rfl, _, rfl, ?_⟩
    rw [decide_eq_false (fun c => kindJump hp3 (strEq.mp c))]
    refine iteF ?_
    refine ⟨_, rfl, _, rfl, _, _, rfl, .inl (.of hC), rfl, _, rfl, ?_⟩
    rw [decide_eq_false (fun c => by injection c with c; omega)]
    refine iteF ?_
    obtain ⟨t, ba, tr, wl, bl, wvs, bvs, rfl, w1, w2, w3, w4, w5, w6, w7⟩ := hW
    refine ⟨_, rfl, _, _, rfl, w1, rfl, _, _, rfl, _, _, rfl, _, _, rfl, _, _, rfl, _, _, rfl, rfl, ?_⟩
    refine ⟨_, rfl, _, rfl, _, _, _, _, rfl, rfl, .of hC, atI_nat ev, _, rfl, slUse hda fun p2 H2 s2 hp2 => ?_⟩
    have ec : cutV ([.str p.rs.kind, .ref pla, rv] ++ restV p e) none (some 3) = [.str p.rs.kind, .ref pla, rv] := by
      rw [show (3 : Int) = ((3 : Nat) : Int) from rfl, cutTake]
      rfl
    rw [ec] at hp2
    refine ⟨_, _, rfl, hp2, rfl, _, _, rfl, _, _, rfl, _, _, rfl, rfl, ?_⟩
    rw [← hn1, hp1] at q
    have emx : mx p.rs p.fr.mx = mx rs fr.mx := by
      have h1 := norm_mx fr1 rs1 ah1 i1
      have h2 := norm_mx fr rs ah i'
      rw [hn1, h2] at h1
      rw [← hn1, hp1] at h2
      exact h2
    rw [← emx] at hg hi
    clear hp2 hn1 hp1 emx hA1 hm1 hA
    obtain ⟨pah, pi, prs, pfr⟩ := p
    dsimp only at *
    have hWp := hp2'.at_.w hRW
    have ht1 := hTW.1
    have ht3 := hTW.2.1
    rcases sort3 hp3 st.many beg (pah ++ [pi]) with ⟨b, sm, tt, rfl⟩ | hk | hk
    · -- a put
      cases hrv with
      | @tup ra rx _ hR hRA =>
      cases hRA with
      | cons k0 kA =>
      cases k0
      cases kA with
      | cons k1 kA =>
      cases k1
      cases kA with
      | cons k2 kA =>
      cases kA
      have hg0 : GoodSt tops.length (mx tt pfr.mx + 1 + 1) st := hg.less (by simp only [mx]; omega)
      have hgn := hg0.put (b := b) ht3 hWp.2.1
      obtain ⟨g1, g2, g3, g4, g5, g6⟩ := hg
      have lbv := w7.len
      have hb : b < tops.length := hWp.1
      refine ⟨_, rfl, rfl, _, rfl, ?_⟩
      rw [decide_eq_true (show V.str (Rs.put b sm tt).kind = V.str ("put" : Str) from rfl)]
      refine iteT ⟨_, rfl, bl, bvs, rfl, .inl (.of (s2 _ _ w6)), fun L nL => ?_⟩
      have sL := sameNew (o := .lst bvs) nL
      have s0L := Same.trans s2 sL
      have nL0 : H1 L = none := Same.free s2 nL
      have hL3 : upd H2 L (.lst bvs) L = some (.lst bvs) := upd_same
      generalize upd H2 L (.lst bvs) = H3 at *
      refine ⟨_, rfl, _, _, _, _, rfl, rfl, tupS s0L hR, atI_nat (j := 2) rfl, _, rfl, lputUse (E := C8.E0) (sumDin (dinSame s0L k2)) (s0L _ _ w6) (sumsS (tsOf s0L) w7) g2 ht1 ht3 g3 (by omega) (good3 (sumW_wd hWp.2.1) (by omega)) fun H4 v4 s4 hv4 => ?_⟩
      have s04 := Same.trans s0L s4
      have hL4 := s4 _ _ hL3
      refine ⟨_, rfl, _, rfl, _, _, _, _, rfl, rfl, tupS s04 hR, atI_nat (j := 1) rfl, L, _, _, b, rfl, rfl, hL4, ixN_nat (by omega), ?_⟩
      have sm5 : Same H1 (upd H4 L (.lst (bvs.set b v4))) := sameMut s04 nL0
      have hL5 : upd H4 L (.lst (bvs.set b v4)) L = some (.lst (bvs.set b v4)) := upd_same
      have hv5 := tsSum (tsLst (ys := bvs.set b v4) hL4) hv4
      generalize upd H4 L (.lst (bvs.set b v4)) = H5 at *
      refine ⟨_, rfl, _, rfl, _, _, rfl, rfl, _, rfl, _, rfl, _, rfl, _, _, rfl, rfl, _, rfl, _, rfl, by show 5 ≤ sizeLine; decide, fun T5 nT5 => ?_⟩
      have sT5 := sameNew (o := .tup [.ref ba, .ref tr, .int ((st.many : Int) + 1), .ref wl, .ref L]) nT5
      have s05 := Same.trans sm5 sT5
      have hnew : LWay K (upd H5 T5 (.tup [.ref ba, .ref tr, .int ((st.many : Int) + 1), .ref wl, .ref L])) (.ref T5) beg (st.put b sm) :=
        ⟨T5, ba, tr, wl, L, wvs, _, rfl, .of upd_same, tupS s05 w2, tupS s05 w3, s05 _ _ w4, sumsS (tsOf s05) w5, sT5 _ _ hL5, sumsS (tsOf sT5) ((sumsS (tsOf sm5) w7).set (j := b) hv5)⟩
      generalize upd H5 T5 (.tup [.ref ba, .ref tr, .int ((st.many : Int) + 1), .ref wl, .ref L]) = H6 at *
      refine ⟨_, rfl, C, tl, e + 1, .ref T5, cs, tops, R, pah, pi + 1, tt, pfr, beg, st.put b sm, rfl, s05 _ _ hC, dinASame s05 hD, s05 _ _ htl, hTW, hRW, hN, hdp, hp2'.put, hnew, hbl, hgn, by simp only [mx] at hi; omega, fun z => absurd z (Nat.succ_ne_zero _), by omega, fun l us H' nl s' hl hu hlen => ?_⟩
      refine q l us H' (Same.free s05 nl) (Same.trans s05 s') hl ?_ (by rw [Nat.pow_succ]; omega)
      rw [resF_many (Nat.succ_ne_zero _), norm_ways] at hu
      rw [resF_no rfl]
      exact hu
    · -- what is asked
      have kp : prs.kind ≠ "put" := by rcases hk with ⟨w, t, rfl⟩ | ⟨w, ws, b, t, rfl, _⟩ <;> (simp only [Rs.kind]; decide +kernel)
      have kc : (decide (V.str prs.kind = V.str ("if" : Str)) || (decide (V.str prs.kind = V.str ("loop" : Str)) && (decide (V.int (st.many : Int) = V.int 0) && decide (beg = pah ++ [pi])))) = false := by
        rcases hk with ⟨w, t, rfl⟩ | ⟨w, ws, b, t, rfl, hn⟩
        · show (decide (V.str ("say" : Str) = V.str ("if" : Str)) || (decide (V.str ("say" : Str) = V.str ("loop" : Str)) && _)) = false
          rw [decide_eq_false (fun c => absurd (show ("say" : Str) = "if" from strEq.mp c) (by decide +kernel)), decide_eq_false (fun c => absurd (show ("say" : Str) = "loop" from strEq.mp c) (by decide +kernel))]
          rfl
        · show (decide (V.str ("loop" : Str) = V.str ("if" : Str)) || (decide (V.str ("loop" : Str) = V.str ("loop" : Str)) && (decide (V.int (st.many : Int) = V.int 0) && decide (beg = pah ++ [pi])))) = false
          rw [decide_eq_false (fun c => absurd (show ("loop" : Str) = "if" from strEq.mp c) (by decide +kernel))]
          by_cases m0 : st.many = 0
          · rw [decide_eq_false (fun c => hn ⟨m0, c⟩)]
            simp
          · rw [decide_eq_false (p := V.int (st.many : Int) = V.int 0) (fun c => by injection c with c; omega)]
            simp
      refine ⟨_, rfl, rfl, _, rfl, ?_⟩
      rw [decide_eq_false (fun c => kp (strEq.mp c))]
      refine iteF ?_
      refine nextOr ?_
      refine orB (decide (V.str prs.kind = V.str ("if" : Str))) (decide (V.str prs.kind = V.str ("loop" : Str)) && (decide (V.int (st.many : Int) = V.int 0) && decide (beg = pah ++ [pi]))) (fun R' r => ⟨_, rfl, rfl, _, rfl, r⟩) (fun R' r => andB _ _ (fun R2 r2 => ⟨_, rfl, rfl, _, rfl, r2⟩) (fun R2 r2 => andB _ _ (fun R3 r3 => ⟨_, rfl, rfl, _, rfl, r3⟩) (fun R3 r3 => ⟨_, rfl, _, rfl, dPl beg, dPl (pah ++ [pi]), dpPlace (tupS s2 w2), dpPlace (tupS s2 hpla), (lyPl _).shaped (by decide), (lyPl _).shaped (by decide), _, rfl, by rw [eqvPl]; exact r3⟩) r2) r) ?_
      rw [kc]
      refine iteF ?_
      -- found
      refine ⟨by show 0 ≤ sizeLine; decide, fun Fd nFd => ?_⟩
      have sF := sameNew (o := .lst []) nFd
      have s0F := Same.trans s2 sF
      have nF0 : H1 Fd = none := Same.free s2 nFd
      have hF3 : upd H2 Fd (.lst []) Fd = some (.lst []) := upd_same
      generalize upd H2 Fd (.lst []) = H3 at *
      have hkl : (∃ w t, prs = .say w t) ∨ ∃ w ws b t, prs = .loop w ws b t ∧ ws.length ≤ 3 := by
        rcases hk with ⟨w, t, e⟩ | ⟨w, ws, b, t, e, _⟩
        · exact .inl ⟨w, t, e⟩
        · subst e
          exact .inr ⟨w, ws, b, t, rfl, hWp.2.2.1⟩
      have hkk : (∃ w t, prs = .say w t) ∨ ∃ w ws b t, prs = .loop w ws b t := hkl.imp (fun z => z) fun ⟨w, ws, b, t, e, _⟩ => ⟨w, ws, b, t, e⟩
      refine ⟨_, rfl, _, rfl, rv, tl, tops, prs, rfl, dinSame s0F hrv, s0F _ _ htl, hkl, ht3, fun al as H4 nal s4 hal has => ⟨al, _, rfl, .of hal, ?_⟩⟩
      have s04 := Same.trans s0F s4
      have hF4 := s4 _ _ hF3
      have nalF : al ≠ Fd := fun e => by rw [e, hF3] at nal; cases nal
      have las := has.len
      have lask : (askP tops prs).length ≤ 9 := by
        rcases hkl with ⟨w, t, rfl⟩ | ⟨w, ws, b, t, rfl, lw⟩
        · simp [askP]
        · simp only [askP, List.length_append, bnd_len]
          omega
      have gask := ask_good hTW hWp
      have hg1 : GoodSt tops.length 1 st := hg.less (by omega)
      obtain ⟨g1, g2, g3, g4, g5, g6⟩ := hg1
      have lwv := w5.len
      have nwF : wl ≠ Fd := fun e => by rw [← e, w4] at nF0; cases nF0
      have nbF : bl ≠ Fd := fun e => by rw [← e, w6] at nF0; cases nF0
      refine for_it (walkE (b := false) (xs := as)) (fun m σ H' => But Fd H4 H' ∧ ∃ (us : List V) (y13 y17 y18 : Option V), σ = [some (.ref C), some (.int (e : Int)), some (.ref t), some (.ref tl), some (.ref ba), some (.ref tr), some (.int (st.many : Int)), some (.ref wl), some (.ref bl), some (.str prs.kind), some (.ref pla), some rv, none, y13, none, none, some (.ref Fd), y17, y18, none] ∧ H' Fd = some (.lst us) ∧ us.length = m ∧ A2 (TkF K Fd H') us (((askP tops prs).zipIdx.take m).map (tkOf beg (theArr ⟨pah, pi, prs, pfr⟩ st))))
        ⟨But.refl _ _, [], none, none, none, rfl, hF4, rfl, .nil⟩ (fun m σ H' _ p => .of (p.1 _ _ nalF hal)) (fun m zv σ H5 H5' hm p y => ?_) (fun σ H' p => ?_)
      · obtain ⟨b5, us5, y13, y17, y18, rfl, hF5, lu5, hU5⟩ := p
        obtain ⟨T2, x1, x2, rfl, nT2, rfl, e1, e2⟩ := y
        cases e1
        obtain ⟨wd, ew, hx2⟩ := A2.at has e2
        have hwd := gask _ (List.mem_of_getElem? ew)
        have sT2 := sameNew (o := .tup [.int (m : Nat), x2]) nT2
        refine ⟨_, _, rfl, .of upd_same, rfl, _, _, rfl, _, _, rfl, rfl, ?_⟩
        have b9 := b5.trans (butOf sT2)
        have ts9 := butTL b9 hF4
        have ts09 := TS.trans (tsOf s04) ts9
        have hx9 := tsSum ts9 hx2
        have hF9 := sT2 _ _ hF5
        have hU9 := tkfS sT2 hU5
        have w6' := b9 _ _ nbF (s04 _ _ w6)
        have w4' := b9 _ _ nwF (s04 _ _ w4)
        have w7' := sumsS ts09 w7
        have w5' := sumsS ts09 w5
        generalize upd H5 T2 (.tup [.int (m : Nat), x2]) = H9 at *
        refine ⟨_, rfl, _, rfl, lputUse (E := C8.E0) hx9 w6' w7' g2 ht1 ht3 g3 (by omega) (good3 hwd (by omega)) fun H10 v10 s10 hv10 => ⟨v10, pIn wd st.boxes, rfl, hv10, by simp [pIn]; omega, fun H11 v11 s11 hv11 => ?_⟩⟩
        have s911 := Same.trans s10 s11
        have hv11' : SumIn K H11 v11 (pIn (opp wd) st.boxes) := by
          rw [← opp_pIn]
          exact hv11
        refine ⟨_, rfl, .inl ⟨rfl, _, .of (s911 _ _ hF9)⟩, _, rfl, _, rfl, _, rfl, _, rfl, _, rfl, _, rfl, _, rfl, by show 1 ≤ sizeLine; decide, fun Y nY => ?_⟩
        refine ⟨wl, Y, _, _, rfl, rfl, sameNew nY _ _ (s911 _ _ w4'), upd_same, by rw [List.length_singleton]; omega, fun Z nZ => ⟨by show 6 ≤ sizeLine; decide, fun U nU => ?_⟩⟩
        have sY := sameNew (o := .lst [v11]) nY
        have sZ := sameNew (o := .lst (wvs ++ [v11])) nZ
        have sU := sameNew (o := .tup [.ref ba, .ref tr, .ref pla, .int (m : Int), .int (st.many : Int), .ref Z]) nU
        have sYU := Same.trans sY (Same.trans sZ sU)
        have s9U := Same.trans s911 sYU
        have hFU := s9U _ _ hF9
        have nZF : Z ≠ Fd := fun e => by
          have := sY _ _ (s911 _ _ hF9)
          rw [e, this] at nZ
          cases nZ
        have hZU := sU _ _ (show upd _ Z (.lst (wvs ++ [v11])) Z = _ from upd_same)
        have hUU : upd (upd (upd H11 Y (.lst [v11])) Z (.lst (wvs ++ [v11]))) U (.tup [.ref ba, .ref tr, .ref pla, .int (m : Int), .int (st.many : Int), .ref Z]) U = some (.tup [.ref ba, .ref tr, .ref pla, .int (m : Int), .int (st.many : Int), .ref Z]) := upd_same
        have hwU := (sumsS (tsOf s9U) w5').app (.cons (SumIn.mono sYU hv11') .nil)
        have hU12 := tkfS s9U hU9
        have b12 := b9.trans (butOf s9U)
        have tsU := TS.trans ts09 (tsOf s9U)
        generalize upd (upd (upd H11 Y (.lst [v11])) Z (.lst (wvs ++ [v11]))) U (.tup [.ref ba, .ref tr, .ref pla, .int (m : Int), .int (st.many : Int), .ref Z]) = H12 at *
        refine ⟨Fd, us5, _, rfl, rfl, hFU, by omega, ?_⟩
        have hnew : TkA K [Fd] H12 (.ref U) (tkOf beg (theArr ⟨pah, pi, prs, pfr⟩ st) (wd, m), Z) := ⟨U, ba, tr, pla, _, rfl, .of hUU, tsTup tsU w2, tsTup tsU w3, tsTup tsU hpla, hZU, hwU, fun z => nZF (List.mem_singleton.mp z)⟩
        refine ⟨butMut b12, us5 ++ [.ref U], _, _, _, rfl, upd_same, by rw [List.length_append, List.length_singleton, lu5], ?_⟩
        have ez : (askP tops prs).zipIdx[m]? = some (wd, m) := by
          rw [List.getElem?_zipIdx, ew]
          simp
        rw [mapTakeA ez]
        exact (tkfMut hFU hU12).app (.cons ⟨Z, hnew.mut (List.mem_singleton.mpr rfl) hFU⟩ .nil)
      · obtain ⟨b5, us5, y13, y17, y18, rfl, hF5, lu5, hU5⟩ := p
        have eT : ((askP tops prs).zipIdx.take as.length).map (tkOf beg (theArr ⟨pah, pi, prs, pfr⟩ st)) = tkArr tops beg (theArr ⟨pah, pi, prs, pfr⟩ st) := by
          rw [las, show (askP tops prs).length = (askP tops prs).zipIdx.length by simp, List.take_length, tkArr, askPK hkk]
        rw [eT] at hU5
        have sm5 := sameButL s04 nF0 b5
        rcases hk with ⟨wd, tt, rfl⟩ | ⟨wd, ws, bb, tt, rfl, hn⟩
        · cases hrv with
          | @tup ra rx _ hR hRA =>
          cases hRA with
          | cons k0 kA =>
          cases k0
          cases kA with
          | cons k1 kA =>
          cases kA
          have hgn : GoodSt tops.length (mx tt pfr.mx + 1) (st.say wd) := GoodSt.say (hg.less (by simp only [mx]; omega)) ht3 hWp.1
          refine ⟨_, rfl, rfl, _, rfl, ?_⟩
          rw [decide_eq_true (show V.str (Rs.say wd tt).kind = V.str ("say" : Str) from rfl)]
          refine iteT ?_
          refine ⟨_, rfl, _, rfl, _, _, _, _, rfl, rfl, tupS sm5 hR, atI_nat (j := 1) rfl, _, rfl, lputUse (E := C8.E0) (sumDin (dinSame sm5 k1)) (sm5 _ _ w6) (sumsS (tsOf sm5) w7) g2 ht1 ht3 g3 (by omega) (good3 (sumW_wd hWp.1) (by omega)) fun H6 v6 s6 hv6 => ?_⟩
          refine ⟨by show 1 ≤ sizeLine; decide, fun Y nY => ⟨wl, Y, _, _, rfl, rfl, sameNew nY _ _ (s6 _ _ (sm5 _ _ w4)), upd_same, by rw [List.length_singleton]; omega, fun Z nZ => ?_⟩⟩
          have sY := sameNew (o := .lst [v6]) nY
          have sZ := sameNew (o := .lst (wvs ++ [v6])) nZ
          have s6Z := Same.trans s6 (Same.trans sY sZ)
          have hZZ : upd (upd H6 Y (.lst [v6])) Z (.lst (wvs ++ [v6])) Z = some (.lst (wvs ++ [v6])) := upd_same
          have hv7 := SumIn.mono (Same.trans sY sZ) hv6
          have sm7 := Same.trans sm5 s6Z
          have hF7 := s6Z _ _ hF5
          have hU7 := tkfS s6Z hU5
          generalize upd (upd H6 Y (.lst [v6])) Z (.lst (wvs ++ [v6])) = H7 at *
          refine ⟨_, rfl, _, rfl, _, rfl, _, _, rfl, rfl, _, rfl, _, rfl, _, rfl, _, _, rfl, rfl, _, rfl, _, rfl, by show 5 ≤ sizeLine; decide, fun T8 nT8 => ?_⟩
          have sT8 := sameNew (o := .tup [.ref ba, .ref tr, .int ((st.many : Int) + 1), .ref Z, .ref bl]) nT8
          have sm8 := Same.trans sm7 sT8
          have hnew : LWay K (upd H7 T8 (.tup [.ref ba, .ref tr, .int ((st.many : Int) + 1), .ref Z, .ref bl])) (.ref T8) beg (st.say wd) :=
            ⟨T8, ba, tr, Z, bl, _, bvs, rfl, .of upd_same, tupS sm8 w2, tupS sm8 w3, sT8 _ _ hZZ, sumsS (tsOf sT8) ((sumsS (tsOf sm7) w5).app (.cons hv7 .nil)), sm8 _ _ w6, sumsS (tsOf sm8) w7⟩
          have hF8 := sT8 _ _ hF7
          have hU8 := tkfS sT8 hU7
          generalize upd H7 T8 (.tup [.ref ba, .ref tr, .int ((st.many : Int) + 1), .ref Z, .ref bl]) = H8 at *
          refine ⟨_, rfl, C, tl, e + 1, .ref T8, cs, tops, R, pah, pi + 1, tt, pfr, beg, st.say wd, rfl, sm8 _ _ hC, dinASame sm8 hD, sm8 _ _ htl, hTW, hRW, hN, hdp, hp2'.say, hnew, hbl, hgn, by simp only [mx] at hi; omega, fun z => absurd z (Nat.succ_ne_zero _), by omega, fun l us9 H9 nl s9 hl hu hlen => ?_⟩
          have p15 : 2 ^ i ≤ 2 ^ 15 := Nat.pow_le_pow_right (by decide) (by omega)
          have p0 : 1 ≤ 2 ^ i := Nat.one_le_two_pow
          refine ⟨Fd, l, us5, us9, rfl, rfl, s9 _ _ hF8, hl, by omega, fun W nW => ⟨_, rfl, ?_⟩⟩
          have sW := sameNew (o := .lst (us5 ++ us9)) nW
          have sm9 := Same.trans sm8 s9
          refine q W _ _ (Same.free sm9 nW) (Same.trans sm9 sW) upd_same ?_ (by rw [List.length_append, Nat.pow_succ]; omega)
          rw [resF_say]
          rw [resF_many (Nat.succ_ne_zero _)] at hu
          exact (tkfD (tkfS (Same.trans s9 sW) hU8)).app (tkdS sW hu)
        · refine ⟨_, rfl, rfl, _, rfl, ?_⟩
          rw [decide_eq_false (p := V.str (Rs.loop wd ws bb tt).kind = V.str ("say" : Str)) (fun c => absurd (show ("loop" : Str) = "say" from strEq.mp c) (by decide +kernel))]
          refine iteF ⟨_, rfl, q Fd us5 H' nF0 sm5 hF5 ?_ ?_⟩
          · rw [resF_loop hn]
            exact tkfD hU5
          · have p0 : 1 ≤ 2 ^ (i + 1) := Nat.one_le_two_pow
            omega
    · -- two ways
      have kp : prs.kind ≠ "put" := by rcases hk with ⟨w, a, b, t, rfl⟩ | ⟨w, ws, b, t, rfl, _⟩ <;> (simp only [Rs.kind]; decide +kernel)
      have kc : (decide (V.str prs.kind = V.str ("if" : Str)) || (decide (V.str prs.kind = V.str ("loop" : Str)) && (decide (V.int (st.many : Int) = V.int 0) && decide (beg = pah ++ [pi])))) = true := by
        rcases hk with ⟨w, a, b, t, rfl⟩ | ⟨w, ws, b, t, rfl, m0, eb⟩
        · rw [decide_eq_true (show V.str (Rs.ite w a b t).kind = V.str ("if" : Str) from rfl)]
          rfl
        · rw [decide_eq_true (show V.str (Rs.loop w ws b t).kind = V.str ("loop" : Str) from rfl), decide_eq_true eb, decide_eq_true (show V.int (st.many : Int) = V.int 0 by rw [m0]; rfl)]
          simp
      have hbr : ∃ (wd : Sm) (jB : Nat) (ahA : List Nat) (iA : Nat) (rsA : Rs) (frA : Fr) (ahB : List Nat) (iB : Nat) (rsB : Rs) (frB : Fr) (ra : Addr) (rx : List V) (wv : V), rv = .ref ra ∧ SqT K H1 ra rx ∧ rx[1]? = some wv ∧ SumIn K H1 wv wd ∧ SumW tops.length wd ∧ restV ⟨pah, pi, prs, pfr⟩ e = [.int (jB : Int)] ∧ AtC R ahA iA rsA frA (e + 1) ∧ AtC R ahB iB rsB frB jB ∧ GoodSt tops.length (mx rsA frA.mx + 1 + 1) st ∧ GoodSt tops.length (mx rsB frB.mx + 1 + 1) st ∧ mx rsA frA.mx < i ∧ mx rsB frB.mx < i ∧
          resF tops beg (some ⟨pah, pi, prs, pfr⟩) st = (oways (norm frA rsA ahA iA) (st.turn wd true) ++ oways (norm frB rsB ahB iB) (st.turn wd false)).flatMap (tkArr tops beg) := by
        rcases hk with ⟨w, a, b, t, rfl⟩ | ⟨w, ws, b, t, rfl, m0, eb⟩
        · cases hrv with
          | @tup ra rx _ hR hRA =>
          cases hRA with
          | cons k0 kA =>
          cases k0
          cases kA with
          | cons k1 kA =>
          simp only [mx] at hi hg
          refine ⟨w, e + 2 + clen a, _, _, _, _, _, _, _, _, ra, _, _, rfl, hR, rfl, sumDin k1, hWp.1, rfl, hp2'.ifA, hp2'.ifB, hg.less ?_, hg.less ?_, ?_, ?_, ?_⟩
          · simp only [Fr.mx]; omega
          · simp only [Fr.mx]; omega
          · simp only [Fr.mx]; omega
          · simp only [Fr.mx]; omega
          · rw [resF_no rfl, norm_ways, norm_ways]
            rfl
        · cases hrv with
          | @tup ra rx _ hR hRA =>
          cases hRA with
          | cons k0 kA =>
          cases k0
          cases kA with
          | cons k1 kA =>
          have m1 := hp2'.body.at_.mx
          have m2 := hp2'.loop.at_.mx
          have i13 := h13 m0
          refine ⟨w, e + 2 + clen b, _, _, _, _, _, _, _, _, ra, _, _, rfl, hR, rfl, sumDin k1, hWp.1, rfl, hp2'.body, hp2'.loop, ⟨by omega, hg.2⟩, ⟨by omega, hg.2⟩, by omega, by omega, ?_⟩
          unfold resF
          dsimp only
          rw [if_pos ⟨rfl, m0, eb⟩]
          rfl
      obtain ⟨wd, jB, ahA, iA, rsA, frA, ahB, iB, rsB, frB, ra, rx, wv, rfl, hR, hw1, hwv, hWw, erest, hAA, hAB, hgA, hgB, hiA, hiB, eres⟩ := hbr
      rw [eres] at q
      rw [erest] at hda
      have hgA' := hgA.turn (t := true) ht3 hWw
      have hgB' := hgB.turn (t := false) ht3 hWw
      have hg1 : GoodSt tops.length 1 st := hg.less (by omega)
      obtain ⟨g1, g2, g3, g4, g5, g6⟩ := hg1
      have lwv := w5.len
      refine ⟨_, rfl, rfl, _, rfl, ?_⟩
      rw [decide_eq_false (fun c => kp (strEq.mp c))]
      refine iteF ?_
      refine nextOr ?_
      refine orB (decide (V.str prs.kind = V.str ("if" : Str))) (decide (V.str prs.kind = V.str ("loop" : Str)) && (decide (V.int (st.many : Int) = V.int 0) && decide (beg = pah ++ [pi]))) (fun R' r => ⟨_, rfl, rfl, _, rfl, r⟩) (fun R' r => andB _ _ (fun R2 r2 => ⟨_, rfl, rfl, _, rfl, r2⟩) (fun R2 r2 => andB _ _ (fun R3 r3 => ⟨_, rfl, rfl, _, rfl, r3⟩) (fun R3 r3 => ⟨_, rfl, _, rfl, dPl beg, dPl (pah ++ [pi]), dpPlace (tupS s2 w2), dpPlace (tupS s2 hpla), (lyPl _).shaped (by decide), (lyPl _).shaped (by decide), _, rfl, by rw [eqvPl]; exact r3⟩) r2) r) ?_
      rw [kc]
      refine iteT ?_
      refine ⟨_, rfl, _, _, _, _, rfl, rfl, tupS s2 hR, atI_nat hw1, _, rfl, lputUse (E := C8.E0) (SumIn.mono s2 hwv) (s2 _ _ w6) (sumsS (tsOf s2) w7) g2 ht1 ht3 g3 (by omega) (good3 (sumW_wd hWw) (by omega)) fun H3 v3 s3 hv3 => ?_⟩
      have s03 := Same.trans s2 s3
      -- the first way
      refine ⟨_, rfl, _, rfl, by show 1 ≤ sizeLine; decide, fun U4 nU4 => ?_⟩
      have sU4 := sameNew (o := .tup [.bl true]) nU4
      refine catUse (xs := st.truths.map V.bl) (ys := [.bl true]) (tupS (Same.trans s03 sU4) w3) (.of upd_same) (by simp; omega) fun r4 H4 s4 hr4 => ?_
      have s34 := Same.trans sU4 s4
      have s04 := Same.trans s03 s34
      generalize upd H3 U4 (.tup [.bl true]) = Hx at *
      refine ⟨_, rfl, _, _, rfl, rfl, _, rfl, _, rfl, by show 1 ≤ sizeLine; decide, fun Y5 nY5 => ?_⟩
      refine ⟨wl, Y5, _, _, rfl, rfl, sameNew nY5 _ _ (s04 _ _ w4), upd_same, by rw [List.length_singleton]; omega, fun Z5 nZ5 => ?_⟩
      refine ⟨_, rfl, by show 5 ≤ sizeLine; decide, fun T5 nT5 => ?_⟩
      have sY5 := sameNew (o := .lst [v3]) nY5
      have sZ5 := sameNew (o := .lst (wvs ++ [v3])) nZ5
      have sT5 := sameNew (o := .tup [.ref ba, .ref r4, .int ((st.many : Int) + 1), .ref Z5, .ref bl]) nT5
      have s4T := Same.trans sY5 (Same.trans sZ5 sT5)
      have s0T := Same.trans s04 s4T
      have hfirst : LWay K (upd (upd (upd H4 Y5 (.lst [v3])) Z5 (.lst (wvs ++ [v3]))) T5 (.tup [.ref ba, .ref r4, .int ((st.many : Int) + 1), .ref Z5, .ref bl])) (.ref T5) beg (st.turn wd true) :=
        ⟨T5, ba, r4, Z5, bl, _, bvs, rfl, .of upd_same, tupS s0T w2, by have := tupS s4T hr4; simpa [St'.turn] using this, sT5 _ _ upd_same, (sumsS (tsOf s0T) w5).app (.cons (SumIn.mono (Same.trans s34 s4T) hv3) .nil), s0T _ _ w6, sumsS (tsOf s0T) w7⟩
      have hv5 := SumIn.mono (Same.trans s34 s4T) hv3
      generalize upd (upd (upd H4 Y5 (.lst [v3])) Z5 (.lst (wvs ++ [v3]))) T5 (.tup [.ref ba, .ref r4, .int ((st.many : Int) + 1), .ref Z5, .ref bl]) = H5 at *
      -- the second way
      refine ⟨_, rfl, _, rfl, by show 1 ≤ sizeLine; decide, fun U6 nU6 => ?_⟩
      have sU6 := sameNew (o := .tup [.bl false]) nU6
      refine catUse (xs := st.truths.map V.bl) (ys := [.bl false]) (tupS (Same.trans s0T sU6) w3) (.of upd_same) (by simp; omega) fun r6 H6 s6 hr6 => ?_
      have s56 := Same.trans sU6 s6
      have s06 := Same.trans s0T s56
      have hv6 := SumIn.mono s56 hv5
      have hfirst6 := hfirst.same s56
      generalize upd H5 U6 (.tup [.bl false]) = Hy at *
      refine ⟨_, rfl, _, _, rfl, rfl, _, rfl, _, rfl, v3, pIn wd st.boxes, rfl, hv6, by simp [pIn]; omega, fun H7 v7 s7 hv7 => ?_⟩
      refine ⟨by show 1 ≤ sizeLine; decide, fun Y8 nY8 => ?_⟩
      have s07 := Same.trans s06 s7
      refine ⟨wl, Y8, _, _, rfl, rfl, sameNew nY8 _ _ (s07 _ _ w4), upd_same, by rw [List.length_singleton]; omega, fun Z8 nZ8 => ?_⟩
      refine ⟨_, rfl, by show 5 ≤ sizeLine; decide, fun T8 nT8 => ?_⟩
      have sY8 := sameNew (o := .lst [v7]) nY8
      have sZ8 := sameNew (o := .lst (wvs ++ [v7])) nZ8
      have sT8 := sameNew (o := .tup [.ref ba, .ref r6, .int ((st.many : Int) + 1), .ref Z8, .ref bl]) nT8
      have s7T := Same.trans sY8 (Same.trans sZ8 sT8)
      have s08 := Same.trans s07 s7T
      have hsecond : LWay K (upd (upd (upd H7 Y8 (.lst [v7])) Z8 (.lst (wvs ++ [v7]))) T8 (.tup [.ref ba, .ref r6, .int ((st.many : Int) + 1), .ref Z8, .ref bl])) (.ref T8) beg (st.turn wd false) :=
        ⟨T8, ba, r6, Z8, bl, _, bvs, rfl, .of upd_same, tupS s08 w2, by have := tupS (Same.trans s7 s7T) hr6; simpa [St'.turn] using this, sT8 _ _ upd_same, (sumsS (tsOf s08) w5).app (.cons (SumIn.mono s7T hv7) .nil), s08 _ _ w6, sumsS (tsOf s08) w7⟩
      have hfirst8 := hfirst6.same (Same.trans s7 s7T)
      generalize upd (upd (upd H7 Y8 (.lst [v7])) Z8 (.lst (wvs ++ [v7]))) T8 (.tup [.ref ba, .ref r6, .int ((st.many : Int) + 1), .ref Z8, .ref bl]) = H8 at *
      -- both
      refine ⟨_, rfl, _, rfl, _, _, rfl, rfl, _, rfl, _, rfl, C, tl, e + 1, .ref T5, cs, tops, R, ahA, iA, rsA, frA, beg, st.turn wd true, rfl, s08 _ _ hC, dinASame s08 hD, s08 _ _ htl, hTW, hRW, hN, hdp, hAA, hfirst8, hbl, hgA', hiA, fun z => absurd z (Nat.succ_ne_zero _), by omega, fun l1 us1 H9 nl1 s9 hl1 hu1 len1 => ?_⟩
      have s09 := Same.trans s08 s9
      refine ⟨_, rfl, _, rfl, _, rfl, _, _, _, _, rfl, rfl, .of (s09 _ _ hC), atI_nat ev, _, _, _, _, rfl, rfl, tupS s09 hda, atI_nat (j := 3) rfl, _, rfl, _, rfl, C, tl, jB, .ref T8, cs, tops, R, ahB, iB, rsB, frB, beg, st.turn wd false, rfl, s09 _ _ hC, dinASame s09 hD, s09 _ _ htl, hTW, hRW, hN, hdp, hAB, hsecond.same s9, hbl, hgB', hiB, fun z => absurd z (Nat.succ_ne_zero _), by omega, fun l2 us2 H10 nl2 s10 hl2 hu2 len2 => ?_⟩
      have p15 : 2 ^ i ≤ 2 ^ 15 := Nat.pow_le_pow_right (by decide) (by omega)
      refine ⟨l1, l2, us1, us2, rfl, rfl, s10 _ _ hl1, hl2, by omega, fun W nW => ?_⟩
      have sW := sameNew (o := .lst (us1 ++ us2)) nW
      have s010 := Same.trans s09 s10
      refine q W _ _ (Same.free s010 nW) (Same.trans s010 sW) upd_same ?_ (by rw [List.length_append, Nat.pow_succ]; omega)
      rw [resF_many (Nat.succ_ne_zero _)] at hu1 hu2
      rw [List.flatMap_append]
      exact (tkdS (Same.trans s10 sW) hu1).app (tkdS sW hu2)
  · -- at the end
    rw [decide_eq_false (by omega)]
    refine iteF (iteF ?_)
    refine ⟨_, rfl, _, rfl, _, _, rfl, .inl (.of hC), rfl, _, rfl, ?_⟩
    rw [decide_eq_true (by rw [hp2, lcs])]
    refine iteT ⟨by show 0 ≤ sizeLine; decide, fun l nl => q l [] _ nl (sameNew nl) upd_same ?_ (Nat.zero_le _)⟩
    rw [← hn1, hp1]
    exact .nil
  · -- at a jump
    have le : e < cs.length := by
      have := (List.getElem?_eq_some_iff.mp hp1).1
      omega
    obtain ⟨v, ev, hv⟩ := dinAtD (i := e) (d := (De.jump pl e2).d) hD (by rw [List.getElem?_map, hp1]; rfl)
    cases hv with
    | @tup da dx _ h1 h2 =>
    cases h2 with
    | cons k0 h2 =>
    cases k0
    cases h2 with
    | cons k1 h2 =>
    cases h2 with
    | cons k2 h2 =>
    cases k2
    cases h2
    rw [decide_eq_true (by omega)]
    refine iteT ⟨_, rfl, _, rfl, _, _, _, _, rfl, rfl, .of hC, atI_nat ev, _, _, _, _, rfl, rfl, h1, atI_nat (j := 0) rfl, rfl, _, rfl, ?_⟩
    rw [decide_eq_true (strEq.mpr rfl)]
    refine iteT ⟨_, fun σ' H' z => z, ?_⟩
    refine ⟨_, rfl, _, rfl, _, _, _, _, rfl, rfl, .of hC, atI_nat ev, _, _, _, _, rfl, rfl, h1, atI_nat (j := 2) rfl, ?_⟩
    exact ⟨frD fr2, by omega, ah2, i2, rs2, fr2, e2, rfl, rfl, hp2, by rw [hp3, hn1], rfl⟩

end

end LW

namespace LW
open PySem PySem.Spec PyProof.Rows L2
local macro_rules | `(tactic| walk_at "go1") => `(tactic| first
  | refine ⟨_, rfl, ?_⟩
  | refine ⟨_, _, rfl, rfl, ?_⟩
  | refine ⟨show (0 : Int) < _ from by omega, ?_⟩
  | refine ⟨show CMul _ _ from by first | exact .inl ⟨by omega, by omega⟩ | exact .inr ⟨by omega, by omega⟩, ?_⟩
  | refine ⟨show CDiv _ _ from ⟨by omega, by omega⟩, ?_⟩)
local macro_rules | `(tactic| walk_at "go") => `(tactic| repeat walk_at "go1")

section
variable {P : Program} {w : World} {K : PySem.W.Frag} {mg : Str → Option Value} {base : Heap}

theorem resF_none {tops : List Int} {o : Option Pos'} {st : St'} : resF tops [] o st = (oways o st).flatMap (tkArr tops []) := by
  cases o with
  | none => rfl
  | some p =>
    unfold resF
    dsimp only
    rw [if_neg (fun z => by have := z.2.2; simp [Pos'.at_] at this)]
    rfl
theorem tkBeg_none {tops : List Int} {R : Rs} : tkBeg tops R none = resF tops [] (norm .top R [] 0) (startSt tops.length []) := by
  rw [resF_none]
  simp [tkBeg, begins, pend, begPlace]
theorem tkBeg_some {tops : List Int} {R : Rs} {p : Pos'} (h : ∃ w ws b t, p.rs = .loop w ws b t) : tkBeg tops R (some p) = resF tops p.at_ (some p) (startSt tops.length (keptOf p.rs)) := by
  obtain ⟨w, ws, b, t, e⟩ := h
  unfold resF
  dsimp only
  rw [if_pos ⟨by rw [e]; rfl, rfl, rfl⟩]
  simp [tkBeg, begins, pend, begPlace, Pos'.at_]
abbrev s__law_due : Stmt := topS 53
theorem sc__law_due : FnScope ["_law_code_here", "_law_tops_here", "_law_boxes", "_law_found", "_law_at_here", "_law_words", "_law_k"] ["_law_code_here", "_law_tops_here"] (defScope s__law_due) := ⟨rfl, rfl, rfl, by decide +kernel, rfl, by decide +kernel, by decide +kernel⟩

def spDue (K : PySem.W.Frag) : Sp := fun vs H Q _ => ∃ (C tl : Addr) (cs : List V) (tops : List Int) (R : Rs), vs = [.ref C, .ref tl] ∧ H C = some (.lst cs) ∧ DinA K H cs ((codeOf R).map De.d) ∧ H tl = some (.lst (tops.map V.int)) ∧ TopsW tops ∧ R.W tops.length ∧ R.num ≤ 12 ∧ R.dep ≤ 3 ∧
  ∀ (l : Addr) (us : List V) (H' : Hp), H l = none → Same H H' → H' l = some (.lst us) → A2 (TkD K H') us (tasksP tops R) → us.length ≤ 10000000 → Q (.ref l) H'
theorem ok__law_due {f : Addr} {fd : FuncData} {k : Nat} (F : Fun K "_law_due" "_law_due" s__law_due f fd) (B : Bl mg) (c__law_unit : C8.Cal P w K mg base k "_law_unit" (spUnit K) []) (c__law_from : C8.Cal P w K mg base k "_law_from" (spFrom K 14) []) : FnOk P w K mg base CX0 (k + 1) f fd ["_law_code_here", "_law_tops_here"] (spDue K) := by
  refine F.ok sc__law_due (fun vs H Q E h => ?_) (fun cdv A outer s H vs Q E hr h => ?_)
  · obtain ⟨C, tl, cs, tops, R, rfl, _⟩ := h
    rfl
  obtain ⟨C, tl, cs, tops, R, rfl, hC, hD, htl, hTW, hRW, hN, hdp, q⟩ := h
  refine ⟨_, (pss_cons (ps_setLc (i := 2) (own := [("_law_k", 6)]) rfl sc__law_due.nd rfl rfl (sw_true rfl rfl rfl (by decide +kernel)) (pi_range1 (by rfl) B.range (pa_cons (pe_callB (kLen (K := K) rfl) (by rfl) B.len PySem.boot_len (pa_cons (pv 1) pa_nil)) pa_nil)) (blkOk_by (own := [("_law_k", 6)]) (N := ["_law_code_here", "_law_tops_here", "_law_boxes", "_law_found", "_law_at_here", "_law_words", "_law_k"]) (sc := defScope s__law_due) (by decide +kernel)) (fun _ _ _ _ _ => (pgN (i := 6) sc__law_due.nd rfl (.inl rfl) (.inr rfl))) (fun _ _ _ _ _ => pts_nil) (fun _ _ _ _ _ => (C8.pe_c c__law_unit hr (Nat.le_refl _) (by rfl) (pa_cons (pe_callB (kLen (K := K) rfl) (by rfl) B.len PySem.boot_len (pa_cons (pv 1) pa_nil)) (pa_cons (pv 6) (pa_cons pe_int (pa_cons pe_int pa_nil)))))))
    (pss_cons (ps_set (i := 3) sc__law_due.nd rfl (.inl rfl) (C8.pe_c c__law_from hr (Nat.le_refl _) (by rfl) (pa_cons (pv 0) (pa_cons pe_int (pa_cons (pe_tup (pa_cons (pe_tup pa_nil) (pa_cons (pe_tup pa_nil) (pa_cons pe_int (pa_cons (pe_lst pa_nil) (pa_cons (pv 2) pa_nil)))))) (pa_cons (pv 1) pa_nil))))))
    (pss_cons (ps_for PassesOwn.never rfl (pi_range1 (by rfl) B.range (pa_cons (pe_callB (kLen (K := K) rfl) (by rfl) B.len PySem.boot_len (pa_cons (pv 0) pa_nil)) pa_nil)) (pg_name (i := 4) sc__law_due.nd rfl (.inl rfl))
      (pss_one (ps_if (pt_cmpR op_eq (pe_ix (kIxT (K := K) rfl) (pe_ix (kIxL (K := K) rfl) (pv 0) (pv 4) (fun _ _ => rfl)) pe_int (fun _ _ => rfl)) pe_str (nomark _))
        (pss_cons (ps_set (i := 5) sc__law_due.nd rfl (.inl rfl) (pe_callTy (kList (K := K) rfl) (by rfl) B.list (by decide +kernel) (pa_cons (pe_ix (kIxT (K := K) rfl) (pe_ix (kIxT (K := K) rfl) (pe_ix (kIxL (K := K) rfl) (pv 0) (pv 4) (fun _ _ => rfl)) pe_int (fun _ _ => rfl)) pe_int (fun _ _ => rfl)) pa_nil)))
        (pss_one (ps_set (i := 3) sc__law_due.nd rfl (.inl rfl) (pe_op op_cat (pv 3) (C8.pe_c c__law_from hr (Nat.le_refl _) (by rfl) (pa_cons (pv 0) (pa_cons (pv 4) (pa_cons (pe_tup (pa_cons (pe_ix (kIxT (K := K) rfl) (pe_ix (kIxL (K := K) rfl) (pv 0) (pv 4) (fun _ _ => rfl)) pe_int (fun _ _ => rfl)) (pa_cons (pe_tup pa_nil) (pa_cons pe_int (pa_cons (pv 5) (pa_cons (pv 2) pa_nil)))))) (pa_cons (pv 1) pa_nil)))))))))
        pss_nil)))
    (pss_one (ps_ret (pv 3)))))), ?_⟩
  have szl : (10000000 : Nat) < sizeLine := by decide
  have lcs := hD.len
  rw [List.length_map] at lcs
  have lco : (codeOf R).length ≤ 24 := by
    rw [codeOf, codeR_len]
    have := clen_le R
    omega
  have ht3 := hTW.2.1
  have ltm : (tops.map V.int).length = tops.length := List.length_map _
  refine ⟨_, rfl, _, _, rfl, .inl (.of htl), _, rfl, by omega, by omega, fun D nD => ?_⟩
  refine lc_it walk_range (Made H D (fun j y H' => SumIn K H' y (unitN 1 j tops.length, 0))) (made0 nD) (fun _ _ _ _ => trivial) (fun j y H2 H3 hj p z => ?_) (fun H2 p => ?_)
  · obtain ⟨rfl, rfl⟩ := z
    refine ⟨rfl, ?_⟩
    refine lcYes ?_
    have hj3 : j < tops.length := by omega
    refine ⟨_, rfl, _, _, rfl, .inl (.of (p.same _ _ htl)), _, rfl, (tops.map V.int).length, _, 1, 0, rfl, by omega, by omega, by omega, fun H4 v s4 hv => ?_⟩
    have ej : ((0 : Int) + (j : Int)).toNat = j := by omega
    rw [ej, ltm, unit_N hj3] at hv
    exact p.push nD (fun _ _ _ _ e h => tsSum e h) (by omega) s4 hv
  obtain ⟨ys, lys, eD, s2, hys⟩ := p
  have lt : ((tops.map V.int).length : Int).toNat = tops.length := by omega
  rw [lt] at lys
  have hB : A2 (SumIn K H2) ys (boxes0 tops.length) := A2.ofAt (by simp [boxes0, lys]) fun j y z e1 e2 => by
    have hj : j < tops.length := by
      have := (List.getElem?_eq_some_iff.mp e1).1
      omega
    have ez : z = (unitN 1 j tops.length, 0) := by
      simp [boxes0, hj] at e2
      exact e2.symm
    rw [ez]
    exact hys j y e1
  -- from the beginning
  refine ⟨_, rfl, by show 0 ≤ sizeLine; decide, fun T1 nT1 => ⟨by show 0 ≤ sizeLine; decide, fun T2 nT2 => ⟨by show 0 ≤ sizeLine; decide, fun L nL => ⟨_, rfl, by show 5 ≤ sizeLine; decide, fun W nW => ?_⟩⟩⟩⟩
  have sT1 := sameNew (o := .tup []) nT1
  have sT2 := sameNew (o := .tup []) nT2
  have sL := sameNew (o := .lst []) nL
  have sW := sameNew (o := .tup [.ref T1, .ref T2, .int 0, .ref L, .ref D]) nW
  have s2W := Same.trans sT1 (Same.trans sT2 (Same.trans sL sW))
  have hw0 : LWay K (upd (upd (upd (upd H2 T1 (.tup [])) T2 (.tup [])) L (.lst [])) W (.tup [.ref T1, .ref T2, .int 0, .ref L, .ref D])) (.ref W) [] (startSt tops.length []) :=
    ⟨W, T1, T2, L, D, [], ys, rfl, .of upd_same, tupS (Same.trans sT2 (Same.trans sL sW)) (.of upd_same), tupS (Same.trans sL sW) (.of upd_same), sW _ _ upd_same, .nil, s2W _ _ eD, sumsS (tsOf s2W) hB⟩
  have s0W := Same.trans s2 s2W
  have hDW := s2W _ _ eD
  have hBW := sumsS (tsOf s2W) hB
  generalize upd (upd (upd (upd H2 T1 (.tup [])) T2 (.tup [])) L (.lst [])) W (.tup [.ref T1, .ref T2, .int 0, .ref L, .ref D]) = H3 at *
  have gs : ∀ ws : List Sm, (∀ s ∈ ws, SumW tops.length s) → ws.length ≤ 3 → GoodSt tops.length 14 (startSt tops.length ws) := fun ws h1 h2 => startGood ht3 (by omega) h1 h2
  have nm : ∀ {ah i rs fr}, At R ah i rs fr → mx rs fr.mx ≤ 12 := fun h => Nat.le_trans h.mx hN
  refine ⟨_, rfl, C, tl, 0, .ref W, cs, tops, R, [], 0, R, .top, [], startSt tops.length [], rfl, s0W _ _ hC, dinASame s0W hD, s0W _ _ htl, hTW, hRW, hN, hdp, .top, hw0, by decide, (gs [] (fun s hs => by cases hs) (by decide)).less (by have := nm (At.top (R := R)); omega), by have := nm (At.top (R := R)); omega, fun _ => by decide, by decide, fun l0 us0 H4 nl0 s4 hl0 hu0 len0 => ?_⟩
  rw [← tkBeg_none] at hu0
  have n00 : H l0 = none := Same.free s0W nl0
  refine ⟨_, rfl, _, _, rfl, .inl (.of (s4 _ _ (s0W _ _ hC))), _, rfl, by omega, by omega, ?_⟩
  refine for_range (lo := 0) (n := cs.length) (fun j σ H' => ∃ (l : Addr) (us : List V) (y4 y5 y6 : Option V), σ = [some (.ref C), some (.ref tl), some (.ref D), some (.ref l), y4, y5, y6] ∧ Same H3 H' ∧ H l = none ∧ H' l = some (.lst us) ∧ A2 (TkD K H') us (tkBeg tops R none ++ ((codeOf R).take j).flatMap fun d => (loopD d).flatMap fun p => tkBeg tops R (some p)) ∧ us.length ≤ 200000 * (j + 1))
    ⟨l0, us0, _, _, _, rfl, s4, n00, hl0, by simpa using hu0, by omega⟩ (fun j σ H5 hj z => ?_) (fun σ H5 z => ?_)
  · obtain ⟨l, us, y4, y5, y6, rfl, s5, nl, hl, hu, len⟩ := z
    have s05 := Same.trans s0W s5
    obtain ⟨v, ev⟩ : ∃ v, cs[j]? = some v := ⟨_, List.getElem?_eq_getElem hj⟩
    obtain ⟨d', ed', hv⟩ := dinAt hD ev
    rw [List.getElem?_map] at ed'
    obtain ⟨d, ed, rfl⟩ := Option.map_eq_some_iff.mp ed'
    have hv5 := dinSame s05 hv
    have e0 : (0 : Int) + (j : Int) = ((j : Nat) : Int) := by omega
    have atv : atI cs (0 + (j : Int)) = some v := by
      rw [e0]
      exact atI_nat ev
    have eft := flatTakeA (f := fun d => (loopD d).flatMap fun p => tkBeg tops R (some p)) ed
    have hC5 := s05 _ _ hC
    rcases codeAt (R := R) .top j d ed with ⟨pl, to, rfl⟩ | ⟨p, hp, hpn, rfl⟩
    · cases hv5 with
      | @tup da dx _ h1 h2 =>
      cases h2 with
      | cons k0 h2 =>
      cases k0
      refine ⟨_, rfl, _, rfl, _, _, _, _, rfl, rfl, .of hC5, atv, _, _, _, _, rfl, rfl, h1, atI_nat (j := 0) rfl, rfl, _, rfl, ?_⟩
      rw [decide_eq_false (fun c => absurd (strEq.mp c) (by decide +kernel))]
      refine iteF ⟨l, us, _, _, _, rfl, s5, nl, hl, ?_, by omega⟩
      rw [eft]
      simpa [loopD] using hu
    · obtain ⟨da, pla, rv, rfl, hda, hpla, hrv⟩ := deIn hpn hv5
      rw [show 0 + j = j by omega] at hp hda eft
      have hWp := hp.at_.w hRW
      refine ⟨_, rfl, _, rfl, _, _, _, _, rfl, rfl, .of hC5, atv, _, _, _, _, rfl, rfl, hda, atI_nat (j := 0) rfl, rfl, _, rfl, ?_⟩
      obtain ⟨pah, pi, prs, pfr⟩ := p
      dsimp only at hp hpn hpla hrv hWp
      have no : loopD (deAt ⟨pah, pi, prs, pfr⟩ j) = [] → A2 (TkD K H5) us (tkBeg tops R none ++ ((codeOf R).take (j + 1)).flatMap fun d => (loopD d).flatMap fun p => tkBeg tops R (some p)) := fun e => by
        rw [eft, e]
        simpa using hu
      cases prs with
      | nil => cases hpn
      | put b sm tt =>
        rw [decide_eq_false (p := V.str (Rs.put b sm tt).kind = V.str ("loop" : Str)) (fun c => absurd (show ("put" : Str) = "loop" from strEq.mp c) (by decide +kernel))]
        exact iteF ⟨l, us, _, _, _, rfl, s5, nl, hl, no rfl, by omega⟩
      | say wd tt =>
        rw [decide_eq_false (p := V.str (Rs.say wd tt).kind = V.str ("loop" : Str)) (fun c => absurd (show ("say" : Str) = "loop" from strEq.mp c) (by decide +kernel))]
        exact iteF ⟨l, us, _, _, _, rfl, s5, nl, hl, no rfl, by omega⟩
      | ite wd a b tt =>
        rw [decide_eq_false (p := V.str (Rs.ite wd a b tt).kind = V.str ("loop" : Str)) (fun c => absurd (show ("if" : Str) = "loop" from strEq.mp c) (by decide +kernel))]
        exact iteF ⟨l, us, _, _, _, rfl, s5, nl, hl, no rfl, by omega⟩
      | loop wd ws bb tt =>
        rw [decide_eq_true (show V.str (Rs.loop wd ws bb tt).kind = V.str ("loop" : Str) from rfl)]
        refine iteT ?_
        cases hrv with
        | @tup ra rx _ hR hRA =>
        cases hRA with
        | cons k0 kA =>
        cases k0
        cases kA with
        | cons k1 kA =>
        cases kA with
        | cons k2 kA =>
        cases k2 with
        | @tup wa wx _ hWT hWA =>
        have hWs := sumsDin hWA
        refine ⟨_, rfl, _, rfl, _, _, _, _, rfl, rfl, .of hC5, atv, _, _, _, _, rfl, rfl, hda, atI_nat (j := 2) rfl, _, _, _, _, rfl, rfl, hR, atI_nat (j := 2) rfl, wa, wx, rfl, .inr hWT, fun Lw nLw => ?_⟩
        have sLw := sameNew (o := .lst wx) nLw
        have hC6 := sLw _ _ hC5
        refine ⟨_, rfl, _, rfl, _, rfl, _, rfl, _, rfl, _, _, _, _, rfl, rfl, .of hC6, atv, _, _, _, _, rfl, rfl, tupS sLw hda, atI_nat (j := 1) rfl, by show 0 ≤ sizeLine; decide, fun T7 nT7 => ⟨_, rfl, _, rfl, by show 5 ≤ sizeLine; decide, fun W7 nW7 => ?_⟩⟩
        have sT7 := sameNew (o := .tup []) nT7
        have sW7 := sameNew (o := .tup [.ref pla, .ref T7, .int 0, .ref Lw, .ref D]) nW7
        have s57 := Same.trans sLw (Same.trans sT7 sW7)
        have s37 := Same.trans s5 s57
        have hw7 : LWay K (upd (upd (upd H5 Lw (.lst wx)) T7 (.tup [])) W7 (.tup [.ref pla, .ref T7, .int 0, .ref Lw, .ref D])) (.ref W7) (pah ++ [pi]) (startSt tops.length ws) :=
          ⟨W7, pla, T7, Lw, D, wx, ys, rfl, .of upd_same, tupS s57 hpla, tupS sW7 (.of upd_same), Same.trans sT7 sW7 _ _ upd_same, sumsS (tsOf s57) hWs, s37 _ _ hDW, sumsS (tsOf s37) hBW⟩
        generalize upd (upd (upd H5 Lw (.lst wx)) T7 (.tup [])) W7 (.tup [.ref pla, .ref T7, .int 0, .ref Lw, .ref D]) = H7 at *
        have s07 := Same.trans s05 s57
        have lpl : (pah ++ [pi]).length ≤ 50 := by
          have := hp.at_.deep
          simp
          omega
        refine ⟨_, rfl, C, tl, j, .ref W7, cs, tops, R, pah, pi, _, pfr, pah ++ [pi], startSt tops.length ws, by rw [e0]; rfl, s07 _ _ hC, dinASame s07 hD, s07 _ _ htl, hTW, hRW, hN, hdp, hp, hw7, lpl, (gs ws hWp.2.1 hWp.2.2.1).less (by have := nm hp.at_; omega), by have := nm hp.at_; omega, fun _ => by decide, by decide, fun l9 us9 H9 nl9 s9 hl9 hu9 len9 => ?_⟩
        refine ⟨l, l9, us, us9, rfl, rfl, Same.trans s57 s9 _ _ hl, hl9, by omega, fun Z nZ => ?_⟩
        have sZ := sameNew (o := .lst (us ++ us9)) nZ
        refine ⟨Z, us ++ us9, _, _, _, rfl, Same.trans s37 (Same.trans s9 sZ), Same.free (Same.trans s07 s9) nZ, upd_same, ?_, by rw [List.length_append]; omega⟩
        rw [eft, show loopD (deAt ⟨pah, pi, .loop wd ws bb tt, pfr⟩ j) = [⟨pah, pi, .loop wd ws bb tt, pfr⟩] from rfl, ← List.append_assoc]
        rw [norm_some rfl] at hu9
        refine (tkdS (Same.trans s57 (Same.trans s9 sZ)) hu).app ?_
        rw [List.flatMap_cons, List.flatMap_nil, List.append_nil, tkBeg_some ⟨_, _, _, _, rfl⟩]
        exact tkdS sZ hu9
  · obtain ⟨l, us, y4, y5, y6, rfl, s5, nl, hl, hu, len⟩ := z
    rw [lcs, List.take_length] at hu
    refine ⟨_, rfl, q l us H5 nl (Same.trans s0W s5) hl ?_ (by omega)⟩
    have e : (codeOf R).flatMap (fun d => (loopD d).flatMap fun p => tkBeg tops R (some p)) = ((loopsP R [] 0 .top).map some).flatMap (tkBeg tops R) := by
      rw [← loopsD R [] 0 .top 0, ← List.flatMap_assoc, List.flatMap_map]
      rfl
    rw [e] at hu
    exact hu

end

end LW

namespace LW
open PySem PySem.Spec PyProof.Rows L2
local macro_rules | `(tactic| walk_at "go1") => `(tactic| first
  | refine ⟨_, rfl, ?_⟩
  | refine ⟨_, _, rfl, rfl, ?_⟩
  | refine ⟨show (0 : Int) < _ from by omega, ?_⟩
  | refine ⟨show CMul _ _ from by first | exact .inl ⟨by omega, by omega⟩ | exact .inr ⟨by omega, by omega⟩, ?_⟩
  | refine ⟨show CDiv _ _ from ⟨by omega, by omega⟩, ?_⟩)
local macro_rules | `(tactic| walk_at "go") => `(tactic| repeat walk_at "go1")

section
variable {P : Program} {w : World} {K : PySem.W.Frag} {mg : Str → Option Value} {base : Heap}

abbrev s__law_whole : Stmt := topS 40
theorem sc__law_whole : FnScope ["_law_thing"] ["_law_thing"] (defScope s__law_whole) := ⟨rfl, rfl, rfl, by decide +kernel, rfl, by decide +kernel, by decide +kernel⟩

def spWhole : Sp := fun vs H Q _ => ∃ (i : Int), vs = [.int i] ∧ Q (.bl true) H
theorem ok__law_whole {f : Addr} {fd : FuncData} {k : Nat} (F : Fun K "_law_whole" "_law_whole" s__law_whole f fd) (B : Bl mg) : FnOk P w K mg base CX0 (k + 1) f fd ["_law_thing"] spWhole := by
  refine F.ok sc__law_whole (fun vs H Q E h => ?_) (fun cdv A outer s H vs Q E hr h => ?_)
  · obtain ⟨i, rfl, _⟩ := h
    rfl
  obtain ⟨i, rfl, q⟩ := h
  refine ⟨_, (pss_one (ps_ret (pe_and (pe_callB (kIsi (K := K) rfl) (by rfl) B.isinstance (by decide +kernel) (pa_cons (pv 0) (pa_cons (pe_bltn (v := .ty "int") (by rfl) B.int (by decide +kernel) rfl) pa_nil))) (pe_one (pe_not (pe_callB (kIsi (K := K) rfl) (by rfl) B.isinstance (by decide +kernel) (pa_cons (pv 0) (pa_cons (pe_bltn (v := .ty "bool") (by rfl) B.bool (by decide +kernel) rfl) pa_nil)))))))), ?_⟩
  refine ⟨_, rfl, _, _, _, _, true, rfl, .ty _, .base (.int _), kit_ty (by decide +kernel), _, rfl, ?_⟩
  refine iteT ?_
  refine ⟨_, rfl, _, _, _, _, false, rfl, .ty _, .base (.int _), kit_ty (by decide +kernel), _, rfl, ?_⟩
  exact q

abbrev s__law_kinds_good : Stmt := topS 54
theorem sc__law_kinds_good : FnScope ["_law_task", "_law_one", "_law_number"] ["_law_task"] (defScope s__law_kinds_good) := ⟨rfl, rfl, rfl, by decide +kernel, rfl, by decide +kernel, by decide +kernel⟩

def spKinds (K : PySem.W.Frag) : Sp := fun vs H Q _ => ∃ (v : V) (p : Tk × Addr) (n : Nat), vs = [v] ∧ TkA K [] H v p ∧ GoodTk n p.1 ∧ n ≤ 3 ∧ ∀ H', Same H H' → Q (.bl true) H'
theorem ok__law_kinds_good {f : Addr} {fd : FuncData} {k : Nat} (F : Fun K "_law_kinds_good" "_law_kinds_good" s__law_kinds_good f fd) (B : Bl mg) (c__law_whole : C8.Cal P w K mg base k "_law_whole" spWhole []) : FnOk P w K mg base CX0 (k + 1) f fd ["_law_task"] (spKinds K) := by
  refine F.ok sc__law_kinds_good (fun vs H Q E h => ?_) (fun cdv A outer s H vs Q E hr h => ?_)
  · obtain ⟨v, p, n, rfl, _⟩ := h
    rfl
  obtain ⟨v, ⟨t, w'⟩, n, rfl, hT, hG, hn, q⟩ := h
  refine ⟨_, (pss_cons (ps_if (PW.pt (pw_or (pt_not (pt_val (pe_callB (kIsi (K := K) rfl) (by rfl) B.isinstance (by decide +kernel) (pa_cons (pv 0) (pa_cons (pe_bltn (v := .ty "tuple") (by rfl) B.tuple (by decide +kernel) rfl) pa_nil))))) (pw_or (pt_cmpR op_ne (pe_callB (kLen (K := K) rfl) (by rfl) B.len PySem.boot_len (pa_cons (pv 0) pa_nil)) pe_int (nomark _)) (pw_or1 (pt_not (pt_val (pe_callB (kIsi (K := K) rfl) (by rfl) B.isinstance (by decide +kernel) (pa_cons (pe_ix (kIxT (K := K) rfl) (pv 0) pe_int (fun _ _ => rfl)) (pa_cons (pe_bltn (v := .ty "list") (by rfl) B.list (by decide +kernel) rfl) pa_nil)))))))))
      (pss_one (ps_ret pe_bl))
      pss_nil)
    (pss_cons (ps_if (pt_cmpR (kNeD (K := K) rfl hr.units) (pe_lc (own := [("_law_one", 1)]) rfl sc__law_kinds_good.nd (kTup_ (K := K) rfl (pe_ix (kIxT (K := K) rfl) (pv 0) pe_int (fun _ _ => rfl))) (blkOk_by (own := [("_law_one", 1)]) (N := ["_law_task", "_law_one", "_law_number"]) (sc := defScope s__law_kinds_good) (by decide +kernel)) (fun _ _ _ _ _ => (pgN (i := 1) sc__law_kinds_good.nd rfl (.inl rfl) (.inr rfl))) (fun _ _ _ _ _ => (pts_one (pt_not (pt_val (pe_callB (kIsi (K := K) rfl) (by rfl) B.isinstance (by decide +kernel) (pa_cons (pv 1) (pa_cons (pe_bltn (v := .ty "bool") (by rfl) B.bool (by decide +kernel) rfl) pa_nil))))))) (fun _ _ _ _ _ => (pv 1))) (pe_lst pa_nil) (nomark _))
      (pss_one (ps_ret pe_bl))
      pss_nil)
    (pss_cons (ps_if (PW.pt (pw_or (pt_not (pt_val (C8.pe_c c__law_whole hr (Nat.le_refl _) (by rfl) (pa_cons (pe_ix (kIxT (K := K) rfl) (pv 0) pe_int (fun _ _ => rfl)) pa_nil)))) (pw_or1 (pt_not (pt_val (C8.pe_c c__law_whole hr (Nat.le_refl _) (by rfl) (pa_cons (pe_ix (kIxT (K := K) rfl) (pv 0) pe_int (fun _ _ => rfl)) pa_nil)))))))
      (pss_one (ps_ret pe_bl))
      pss_nil)
    (pss_cons (ps_for PassesOwn.never rfl (kList_ (K := K) rfl (pe_ix (kIxT (K := K) rfl) (pv 0) pe_int (fun _ _ => rfl))) (pg_name (i := 1) sc__law_kinds_good.nd rfl (.inl rfl))
      (pss_cons (ps_if (PW.pt (pw_or (pt_not (pt_val (pe_callB (kIsi (K := K) rfl) (by rfl) B.isinstance (by decide +kernel) (pa_cons (pv 1) (pa_cons (pe_bltn (v := .ty "tuple") (by rfl) B.tuple (by decide +kernel) rfl) pa_nil))))) (pw_or (pt_not (pt_val (pe_callB (kIsi (K := K) rfl) (by rfl) B.isinstance (by decide +kernel) (pa_cons (pe_ix (kIxT (K := K) rfl) (pv 1) pe_int (fun _ _ => rfl)) (pa_cons (pe_bltn (v := .ty "tuple") (by rfl) B.tuple (by decide +kernel) rfl) pa_nil))))) (pw_or1 (pt_not (pt_val (C8.pe_c c__law_whole hr (Nat.le_refl _) (by rfl) (pa_cons (pe_ix (kIxT (K := K) rfl) (pv 1) pe_int (fun _ _ => rfl)) pa_nil))))))))
        (pss_one (ps_ret pe_bl))
        pss_nil)
      (pss_one (ps_if (pt_cmpR (kNeD (K := K) rfl hr.units) (pe_lc (own := [("_law_number", 2)]) rfl sc__law_kinds_good.nd (kTup_ (K := K) rfl (pe_ix (kIxT (K := K) rfl) (pv 1) pe_int (fun _ _ => rfl))) (blkOk_by (own := [("_law_number", 2)]) (N := ["_law_task", "_law_one", "_law_number"]) (sc := defScope s__law_kinds_good) (by decide +kernel)) (fun _ _ _ _ _ => (pgN (i := 2) sc__law_kinds_good.nd rfl (.inl rfl) (.inr rfl))) (fun _ _ _ _ _ => (pts_one (pt_not (pt_val (C8.pe_c c__law_whole hr (Nat.le_refl _) (by rfl) (pa_cons (pv 2) pa_nil)))))) (fun _ _ _ _ _ => (pv 2))) (pe_lst pa_nil) (nomark _))
        (pss_one (ps_ret pe_bl))
        pss_nil))))
    (pss_one (ps_ret pe_bl)))))), ?_⟩
  obtain ⟨a, sa, tr, pa, wvs, rfl, h1, h2, h3, h4, h5, h6, _⟩ := hT
  dsimp only at h1 h2 h3 h4 h5 h6
  refine ⟨_, rfl, _, _, _, _, true, rfl, .ty _, tyTup h1, kit_ty (by decide +kernel), _, rfl, ?_⟩
  refine iteF ⟨_, rfl, _, _, rfl, .inr h1, rfl, _, rfl, ?_⟩
  refine iteF ⟨_, rfl, _, _, _, _, rfl, rfl, h1, atI_nat (j := 5) rfl, _, _, _, _, true, rfl, .ty _, tyLst (.of h5), kit_ty (by decide +kernel), _, rfl, ?_⟩
  refine iteF ?_
  refine ⟨_, rfl, _, _, _, _, rfl, rfl, h1, atI_nat (j := 1) rfl, tr, rfl, ⟨_, h3⟩, fun D nD => ?_⟩
  refine lc_it walk_tup (fun _ H1 => H1 D = some (.lst []) ∧ Same H H1) ⟨upd_same, sameNew nD⟩ (fun i H1 _ p => tupS p.2 h3) (fun i x H1 H2 hi p y => ?_) (fun H1 p => ?_)
  · obtain ⟨rfl, e1⟩ := y
    rw [List.getElem?_map] at e1
    obtain ⟨b, _, rfl⟩ := Option.map_eq_some_iff.mp e1
    refine ⟨rfl, ?_⟩
    refine ⟨_, rfl, _, _, _, _, true, rfl, .ty _, .base (.bl _), kit_ty (by decide +kernel), _, rfl, ?_⟩
    exact iteF p
  refine ⟨by show 0 ≤ sizeLine; decide, fun N nN => ?_⟩
  refine ⟨.list [], .list [], .lst (.of (sameNew nN _ _ p.1)) .nil, .lst (.of upd_same) .nil, rfl, rfl, _, rfl, ?_⟩
  have s2 := Same.trans p.2 (sameNew (o := .lst []) nN)
  generalize upd H1 N (.lst []) = H2 at *
  refine iteF ?_
  refine ⟨_, rfl, _, _, _, _, rfl, rfl, tupS s2 h1, atI_nat (j := 3) rfl, _, rfl, _, rfl, ?_⟩
  refine iteF ⟨_, rfl, _, _, _, _, rfl, rfl, tupS s2 h1, atI_nat (j := 4) rfl, _, rfl, _, rfl, ?_⟩
  refine iteF ?_
  refine ⟨_, rfl, _, _, _, _, rfl, rfl, tupS s2 h1, atI_nat (j := 5) rfl, w', rfl, ⟨_, .of (s2 _ _ h5)⟩, ?_⟩
  refine for_it (walk_list (xs := wvs)) (fun i σ H' => Same H2 H' ∧ ∃ (y1 y2 : Option V), σ = [some (.ref a), y1, y2])
    ⟨Same.refl _, _, _, rfl⟩ (fun i σ H' _ p => .of (p.1 _ _ (s2 _ _ h5))) (fun i x σ H3 H4 hi p y => ?_) (fun σ H' p => ?_)
  · obtain ⟨s3, y1, y2, rfl⟩ := p
    obtain ⟨rfl, ex⟩ := y
    obtain ⟨⟨ns, m⟩, es, hs⟩ := A2.at h6 ex
    obtain ⟨ob, ot, rfl, o1, o2⟩ := SumIn.mono (Same.trans s2 s3) hs
    dsimp only at o1 o2
    refine ⟨_, rfl, _, _, _, _, true, rfl, .ty _, tyTup o1, kit_ty (by decide +kernel), _, rfl, ?_⟩
    refine iteF ⟨_, rfl, _, _, _, _, rfl, rfl, o1, atI_nat (j := 0) rfl, _, _, _, _, true, rfl, .ty _, tyTup o2, kit_ty (by decide +kernel), _, rfl, ?_⟩
    refine iteF ⟨_, rfl, _, _, _, _, rfl, rfl, o1, atI_nat (j := 1) rfl, _, rfl, _, rfl, ?_⟩
    refine iteF ?_
    refine ⟨_, rfl, _, _, _, _, rfl, rfl, o1, atI_nat (j := 0) rfl, _, rfl, ⟨_, o2⟩, fun D2 nD2 => ?_⟩
    refine lc_it walk_tup (fun _ H1 => H1 D2 = some (.lst []) ∧ Same H4 H1) ⟨upd_same, sameNew nD2⟩ (fun i H1 _ p => tupS p.2 o2) (fun i x H1 H2 hi p y => ?_) (fun H5 p => ?_)
    · obtain ⟨rfl, e1⟩ := y
      have f1 := mapAt e1 (by simpa using hi)
      subst f1
      refine ⟨rfl, ?_⟩
      refine ⟨_, rfl, _, rfl, _, rfl, ?_⟩
      exact iteF p
    · refine ⟨by show 0 ≤ sizeLine; decide, fun N2 nN2 => ?_⟩
      refine ⟨.list [], .list [], .lst (.of (sameNew nN2 _ _ p.1)) .nil, .lst (.of upd_same) .nil, rfl, rfl, _, rfl, ?_⟩
      exact iteF ⟨Same.trans s3 (Same.trans p.2 (sameNew nN2)), _, _, rfl⟩
  · obtain ⟨s3, y1, y2, rfl⟩ := p
    exact q _ (Same.trans s2 s3)

end

end LW

namespace LW
open PySem PySem.Spec PyProof.Rows L2
local macro_rules | `(tactic| walk_at "go1") => `(tactic| first
  | refine ⟨_, rfl, ?_⟩
  | refine ⟨_, _, rfl, rfl, ?_⟩
  | refine ⟨show (0 : Int) < _ from by omega, ?_⟩
  | refine ⟨show CMul _ _ from by first | exact .inl ⟨by omega, by omega⟩ | exact .inr ⟨by omega, by omega⟩, ?_⟩
  | refine ⟨show CDiv _ _ from ⟨by omega, by omega⟩, ?_⟩)
local macro_rules | `(tactic| walk_at "go") => `(tactic| repeat walk_at "go1")

section
variable {P : Program} {w : World} {K : PySem.W.Frag} {mg : Str → Option Value} {base : Heap}

theorem dpSms {K : PySem.W.Frag} {H : Hp} : ∀ {vs : List V} {ss : List Sm}, A2 (SumIn K H) vs ss → DpAll K H vs (ss.map dS)
  | _, _, .nil => .nil
  | _, _, .cons h r => .cons (dpSum h) (dpSms r)
theorem lySms (ss : List Sm) : Ly 4 (.list (ss.map dS)) := lyLst (lySums ss)
theorem PgIn.but {H H' : Hp} {C x kp : Addr} {tops : List Int} {R : Rs} {ks : List V} (e : But kp H H') (hk : H kp = some (.lst ks)) (h : PgIn K H C x tops R) : PgIn K H' C x tops R := by
  obtain ⟨a, xs, ⟨dx, t, h1, h2⟩, h3, h4, h5⟩ := h
  have t0 := butTL e hk
  exact ⟨a, xs, ⟨dx, t, e _ _ (fun z => by rw [z, hk] at h1; cases h1) h1, tsTup t0 h2⟩, tsTup t0 h3, dinATS t0 (rsPure R) h4, h5⟩
/-- a list kept, and what it was -/
def Kept5 (K : PySem.W.Frag) (H : Hp) (kp : Addr) (v : V) : Prop := ∃ (t f g : Addr) (vs : List V) (ss : List Sm) (m : Int), v = .ref t ∧ SqT K H t [.ref f, .ref g] ∧ f ≠ kp ∧ g ≠ kp ∧ H f = some (.lst (vs ++ [.int m])) ∧ H g = some (.lst (vs ++ [.int m])) ∧ A2 (SumIn K H) vs ss
theorem Kept5.but {H H' : Hp} {kp : Addr} {v : V} {ks : List V} (e : But kp H H') (hk : H kp = some (.lst ks)) (h : Kept5 K H kp v) : Kept5 K H' kp v := by
  obtain ⟨t, f, g, vs, ss, m, e0, h1, h2, h3, h4, h5, h6⟩ := h
  have t0 := butTL e hk
  exact ⟨t, f, g, vs, ss, m, e0, tsTup t0 h1, h2, h3, e _ _ h2 h4, e _ _ h3 h5, sumsS t0 h6⟩
abbrev s__law_words_right : Stmt := topS 55
theorem sc__law_words_right : FnScope ["_law_program_here", "_law_code_here", "_law_tops_here", "_law_kept", "_law_one", "_law_words"] ["_law_program_here", "_law_code_here", "_law_tops_here", "_law_kept"] (defScope s__law_words_right) := ⟨rfl, rfl, rfl, by decide +kernel, rfl, by decide +kernel, by decide +kernel⟩

def spWR (K : PySem.W.Frag) (Cc : Addr) : Sp := fun vs H Q _ => ∃ (x C tl kp : Addr) (cs ks : List V) (tops : List Int) (R : Rs), vs = [.ref x, .ref C, .ref tl, .ref kp] ∧ PgIn K H Cc x tops R ∧ H C = some (.lst cs) ∧ DinA K H cs ((codeOf R).map De.d) ∧ H tl = some (.lst (tops.map V.int)) ∧ H kp = some (.lst ks) ∧ (∀ v ∈ ks, Kept5 K H kp v) ∧ C ≠ kp ∧ tl ≠ kp ∧ ks.length ≤ 8000000 ∧
  ∀ (ks' : List V) (H' : Hp), But kp H H' → H' kp = some (.lst ks') → (∀ v ∈ ks', Kept5 K H' kp v) → ks'.length ≤ ks.length + 24 → Q (.bl true) H'
theorem ok__law_words_right {f Cc : Addr} {fd : FuncData} {k : Nat} (F : Fun K "_law_words_right" "_law_words_right" s__law_words_right f fd) (B : Bl mg) (c_asked : C8.Cal P w K mg base k "asked" (spAsked K Cc) []) (c__law_asked : C8.Cal P w K mg base k "_law_asked" (spLAsk K) []) : FnOk P w K mg base CX0 (k + 1) f fd ["_law_program_here", "_law_code_here", "_law_tops_here", "_law_kept"] (spWR K Cc) := by
  refine F.ok sc__law_words_right (fun vs H Q E h => ?_) (fun cdv A outer s H vs Q E hr h => ?_)
  · obtain ⟨x, C, tl, kp, cs, ks, tops, R, rfl, _⟩ := h
    rfl
  obtain ⟨x, C, tl, kp, cs, ks, tops, R, rfl, hP, hC, hD, htl, hkp, hks, nC, nT', lks, q⟩ := h
  refine ⟨_, (pss_cons (ps_for PassesOwn.never rfl (kList_ (K := K) rfl (pv 1)) (pg_name (i := 4) sc__law_words_right.nd rfl (.inl rfl))
      (pss_one (ps_if (pt_cmpR (kIn (K := K) rfl) (pe_ix (kIxT (K := K) rfl) (pv 4) pe_int (fun _ _ => rfl)) (pe_tup (pa_cons pe_str (pa_cons pe_str pa_nil))) (by rfl))
        (pss_cons (ps_set (i := 5) sc__law_words_right.nd rfl (.inl rfl) (C8.pe_c c_asked hr (Nat.le_refl _) (by rfl) (pa_cons (pv 0) (pa_cons (pe_ix (kIxT (K := K) rfl) (pv 4) pe_int (fun _ _ => rfl)) pa_nil))))
        (pss_cons (ps_if (PW.pt (pw_or (pt_not (pt_val (pe_callB (kIsi (K := K) rfl) (by rfl) B.isinstance (by decide +kernel) (pa_cons (pv 5) (pa_cons (pe_bltn (v := .ty "list") (by rfl) B.list (by decide +kernel) rfl) pa_nil))))) (pw_or1 (pt_cmpR (kNeD (K := K) rfl hr.units) (pv 5) (C8.pe_c c__law_asked hr (Nat.le_refl _) (by rfl) (pa_cons (pe_ix (kIxT (K := K) rfl) (pv 4) pe_int (fun _ _ => rfl)) (pa_cons (pv 2) pa_nil))) (nomark _)))))
          (pss_one (ps_ret pe_bl))
          pss_nil)
        (pss_cons (ps_expr (pe_bm PySem.F.plainAttrs_list PySem.F.slot_list_append PySem.F.type_list_append mt_append (pv 5) (pa_cons (pe_callB (kLen (K := K) rfl) (by rfl) B.len PySem.boot_len (pa_cons (pv 3) pa_nil)) pa_nil)))
        (pss_one (ps_expr (pe_bm PySem.F.plainAttrs_list PySem.F.slot_list_append PySem.F.type_list_append mt_append (pv 3) (pa_cons (pe_tup (pa_cons (pv 5) (pa_cons (pe_callTy (kList (K := K) rfl) (by rfl) B.list (by decide +kernel) (pa_cons (pv 5) pa_nil)) pa_nil))) pa_nil)))))))
        pss_nil)))
    (pss_one (ps_ret pe_bl))), ?_⟩
  have szl : (10000000 : Nat) < sizeLine := by decide
  obtain ⟨hRW, hTW, hN, hdp⟩ := pgT hP
  have lcs := hD.len
  rw [List.length_map] at lcs
  have lco : (codeOf R).length ≤ 24 := by
    rw [codeOf, codeR_len]
    have := clen_le R
    omega
  refine ⟨_, rfl, C, rfl, ⟨_, .of hC⟩, ?_⟩
  refine for_it (walk_list (xs := cs)) (fun j σ H' => But kp H H' ∧ ∃ (ks' : List V) (y4 y5 : Option V), σ = [some (.ref x), some (.ref C), some (.ref tl), some (.ref kp), y4, y5] ∧ H' kp = some (.lst ks') ∧ (∀ v ∈ ks', Kept5 K H' kp v) ∧ ks'.length ≤ ks.length + j)
    ⟨But.refl _ _, ks, none, none, rfl, hkp, hks, by omega⟩ (fun j σ H' _ p => .of (p.1 _ _ nC hC)) (fun j v σ H1 H1' hj p y => ?_) (fun σ H' p => ?_)
  · obtain ⟨b1, ks1, y4, y5, rfl, hk1, hks1, len1⟩ := p
    obtain ⟨rfl, ev⟩ := y
    obtain ⟨d', ed', hv⟩ := dinAt hD ev
    rw [List.getElem?_map] at ed'
    obtain ⟨d, ed, rfl⟩ := Option.map_eq_some_iff.mp ed'
    have ts1 := butTL b1 hkp
    have hv1 := dinTS ts1 (dePure d) hv
    have key : ∃ (da : Addr) (dx : List V) (kd : Str) (b : Bool), v = .ref da ∧ SqT K H1' da dx ∧ dx[0]? = some (.str kd) ∧ flatV (.str kd) = true ∧ inV (.str kd) [.str "say", .str "loop"] = b ∧ (b = true → ∃ (p : Pos') (pla : Addr) (rv : V), ((∃ w t, p.rs = .say w t) ∨ ∃ w ws b t, p.rs = .loop w ws b t) ∧ At R p.ah p.i p.rs p.fr ∧ dx[1]? = some (.ref pla) ∧ dx[2]? = some rv ∧ SqT K H1' pla (nats (p.ah ++ [p.i])) ∧ Din K H1' rv p.rs.hd) := by
      rcases codeAt (R := R) .top j d ed with ⟨pl, to, rfl⟩ | ⟨p, hp, hpn, rfl⟩
      · cases hv1 with
        | @tup da dx _ h1 h2 =>
        cases h2 with
        | cons k0 h2 =>
        cases k0
        exact ⟨da, _, "jump", false, rfl, h1, rfl, by decide +kernel, by decide +kernel, fun z => by cases z⟩
      · obtain ⟨da, pla, rv, rfl, hda, hpla, hrv⟩ := deIn hpn hv1
        have hpa := hp.at_
        obtain ⟨pah, pi, prs, pfr⟩ := p
        dsimp only at hpa hpn hpla hrv
        cases prs with
        | nil => cases hpn
        | put b sm tt => exact ⟨da, _, "put", false, rfl, hda, rfl, by decide +kernel, by decide +kernel, fun z => by cases z⟩
        | ite wd a b tt => exact ⟨da, _, "if", false, rfl, hda, rfl, by decide +kernel, by decide +kernel, fun z => by cases z⟩
        | say wd tt => exact ⟨da, _, "say", true, rfl, hda, rfl, by decide +kernel, by decide +kernel, fun _ => ⟨⟨pah, pi, .say wd tt, pfr⟩, pla, rv, .inl ⟨_, _, rfl⟩, hpa, rfl, rfl, hpla, hrv⟩⟩
        | loop wd ws bb tt => exact ⟨da, _, "loop", true, rfl, hda, rfl, by decide +kernel, by decide +kernel, fun _ => ⟨⟨pah, pi, .loop wd ws bb tt, pfr⟩, pla, rv, .inr ⟨_, _, _, _, rfl⟩, hpa, rfl, rfl, hpla, hrv⟩⟩
    obtain ⟨da, dx, kd, b, rfl, hda, e0, fk, ek, hyes⟩ := key
    refine ⟨_, rfl, _, _, _, _, rfl, rfl, hda, atI_nat (j := 0) e0, ?_⟩
    refine ⟨by show 2 ≤ sizeLine; decide, fun T nT => ⟨T, _, rfl, .inr (.of upd_same), fk, by decide +kernel, ?_⟩⟩
    have sT := sameNew (o := .tup [.str "say", .str "loop"]) nT
    rw [if_neg Bool.false_ne_true, ek]
    have b2 := b1.trans (butOf sT)
    have hk2 := sT _ _ hk1
    have hks2 : ∀ v ∈ ks1, Kept5 K (upd H1' T (.tup [.str "say", .str "loop"])) kp v := fun v hv => (hks1 v hv).but (butOf sT) hk1
    have hda2 := tupS sT hda
    refine ⟨_, rfl, ?_⟩
    refine ifB (fun c => ?_) (fun c => ⟨b2, ks1, _, _, rfl, hk2, hks2, by omega⟩)
    obtain ⟨p, pla, rv, kind, hpa, e1, e2, hpla, hrv⟩ := hyes c
    have hpla2 := tupS sT hpla
    have hrv2 := dinSame sT hrv
    generalize upd H1' T (.tup [.str "say", .str "loop"]) = H2 at *
    refine ⟨_, rfl, _, rfl, _, _, _, _, rfl, rfl, hda2, atI_nat e1, x, pla, tops, R, p, rfl, hP.but b2 hkp, hpa, kind, hpla2, fun l us H3 nl s3 hl hu => ?_⟩
    have b3 := b2.trans (butOf s3)
    have hWp := hpa.w hRW
    have kind' : (∃ w t, p.rs = .say w t) ∨ ∃ w ws b t, p.rs = .loop w ws b t ∧ ws.length ≤ 3 := by
      rcases kind with ⟨w, t, e⟩ | ⟨w, ws, b, t, e⟩
      · exact .inl ⟨w, t, e⟩
      · rw [e] at hWp
        exact .inr ⟨w, ws, b, t, e, hWp.2.2.1⟩
    have lask : (askP tops p.rs).length ≤ 9 := by
      have := hTW.2.1
      rcases kind' with ⟨w, t, e⟩ | ⟨w, ws, b, t, e, lw⟩
      · rw [e]; simp [askP]
      · rw [e]
        simp only [askP, List.length_append, bnd_len]
        omega
    refine ⟨_, rfl, _, _, _, _, true, rfl, .ty _, tyLst (.of hl), kit_ty (by decide +kernel), _, rfl, ?_⟩
    refine iteF ⟨_, rfl, _, rfl, _, _, _, _, rfl, rfl, tupS s3 hda2, atI_nat e2, _, rfl, rv, tl, tops, p.rs, rfl, dinSame s3 hrv2, b3 _ _ nT' htl, kind', hTW.2.1, fun l2 us2 H4 nl2 s4 hl2 hu2 => ?_⟩
    have hl4 := s4 _ _ hl
    have hu4 := sumsS (tsOf s4) hu
    refine ⟨.list ((askP tops p.rs).map dS), .list ((askP tops p.rs).map dS), .lst (.of hl4) (dpSms hu4), .lst (.of hl2) (dpSms hu2), (lySms _).shaped (by decide), (lySms _).shaped (by decide), _, rfl, ?_⟩
    rw [(lySms _).same]
    refine iteF ?_
    have s24 := Same.trans s3 s4
    have hk4 := s24 _ _ hk2
    have lus := hu.len
    have nlk : l ≠ kp := fun e => by rw [e, hk2] at nl; cases nl
    refine ⟨_, rfl, .inl ⟨rfl, _, .of hl4⟩, _, rfl, _, _, rfl, .inl (.of hk4), l, us, _, rfl, rfl, hl4, by omega, ?_⟩
    have sm5 : Same H2 (upd H4 l (.lst (us ++ [.int (ks1.length : Int)]))) := sameMut s24 nl
    have hl5 : upd H4 l (.lst (us ++ [.int (ks1.length : Int)])) l = some (.lst (us ++ [.int (ks1.length : Int)])) := upd_same
    have hu5 : A2 (SumIn K (upd H4 l (.lst (us ++ [.int (ks1.length : Int)])))) us (askP tops p.rs) := sumsS (tsLst hl4) hu4
    generalize upd H4 l (.lst (us ++ [.int (ks1.length : Int)])) = H5 at *
    have hk5 := sm5 _ _ hk2
    refine ⟨_, rfl, .inl ⟨rfl, _, .of hk5⟩, _, rfl, _, rfl, l, _, rfl, .inl (.of hl5), fun g ng => ⟨by show 2 ≤ sizeLine; decide, fun U nU => ?_⟩⟩
    have sg := sameNew (o := .lst (us ++ [.int (ks1.length : Int)])) ng
    have sU := sameNew (o := .tup [.ref l, .ref g]) nU
    have s57 := Same.trans sg sU
    have ngk : g ≠ kp := fun e => by rw [e, hk5] at ng; cases ng
    have hk7 := s57 _ _ hk5
    have hg7 := sU _ _ (show upd H5 g (.lst (us ++ [.int (ks1.length : Int)])) g = _ from upd_same)
    have hl7 := s57 _ _ hl5
    have hu7 := sumsS (tsOf s57) hu5
    have hU7 : upd (upd H5 g (.lst (us ++ [.int (ks1.length : Int)]))) U (.tup [.ref l, .ref g]) U = some (.tup [.ref l, .ref g]) := upd_same
    generalize upd (upd H5 g (.lst (us ++ [.int (ks1.length : Int)]))) U (.tup [.ref l, .ref g]) = H7 at *
    have sm7 := Same.trans sm5 s57
    refine ⟨kp, ks1, _, rfl, rfl, hk7, by omega, ?_⟩
    have hnew : Kept5 K H7 kp (.ref U) := ⟨U, l, g, us, _, _, rfl, .of hU7, nlk, ngk, hl7, hg7, hu7⟩
    refine ⟨b2.trans (butMut (butOf sm7)), ks1 ++ [.ref U], _, _, rfl, upd_same, fun v hv => ?_, by rw [List.length_append, List.length_singleton]; omega⟩
    rcases List.mem_append.mp hv with hv | hv
    · exact ((hks2 v hv).but (butOf sm7) hk2).but (butMut (But.refl _ _)) hk7
    · rw [List.mem_singleton.mp hv]
      exact hnew.but (butMut (But.refl _ _)) hk7
  · obtain ⟨b1, ks1, y4, y5, rfl, hk1, hks1, len1⟩ := p
    exact q ks1 H' b1 hk1 hks1 (by omega)

end

end LW

namespace LW
open PySem PySem.Spec PyProof.Rows L2
local macro_rules | `(tactic| walk_at "go1") => `(tactic| first
  | refine ⟨_, rfl, ?_⟩
  | refine ⟨_, _, rfl, rfl, ?_⟩
  | refine ⟨show (0 : Int) < _ from by omega, ?_⟩
  | refine ⟨show CMul _ _ from by first | exact .inl ⟨by omega, by omega⟩ | exact .inr ⟨by omega, by omega⟩, ?_⟩
  | refine ⟨show CDiv _ _ from ⟨by omega, by omega⟩, ?_⟩)
local macro_rules | `(tactic| walk_at "go") => `(tactic| repeat walk_at "go1")

section
variable {P : Program} {w : World} {K : PySem.W.Frag} {mg : Str → Option Value} {base : Heap}

theorem topsYes {tops : List Int} (h : TopsW tops) : topsOk (tops.map D.int) = true := by
  obtain ⟨h1, h2, h3⟩ := h
  simp only [topsOk, List.length_map, h1, h2, decide_true, Bool.true_and, List.all_map, List.all_eq_true]
  intro t ht
  exact fromTo_int (h3 t ht).1 (h3 t ht).2
def dTk (t : Tk) : PyData := .tuple [dPl t.start, .tuple (t.truths.map PyData.bool), dPl t.place, .int (t.number : Int), .int (t.many : Int), .list (t.sums.map dS)]
theorem dpBls {H : Hp} : ∀ bs : List Bool, DpAll K H (bs.map V.bl) (bs.map PyData.bool)
  | [] => .nil
  | b :: r => .cons (.bl b) (dpBls r)
theorem dpTk {Ls : List Addr} {H : Hp} {v : V} {t : Tk} {w : Addr} (h : TkA K Ls H v (t, w)) : Dp K H v (dTk t) := by
  obtain ⟨a, sa, tr, pa, wvs, rfl, h1, h2, h3, h4, h5, h6, _⟩ := h
  exact .tup h1 (.cons (dpPlace h2) (.cons (.tup h3 (dpBls _)) (.cons (dpPlace h4) (.cons (.int _) (.cons (.int _) (.cons (.lst (.of h5) (dpSms h6)) .nil))))))
theorem dpTkD {H : Hp} : ∀ {vs : List V} {ts : List Tk}, A2 (TkD K H) vs ts → DpAll K H vs (ts.map dTk)
  | _, _, .nil => .nil
  | _, _, .cons h r => .cons (dpTk h.choose_spec) (dpTkD r)
theorem dpTkA {Ls : List Addr} {H : Hp} : ∀ {vs : List V} {ps : List (Tk × Addr)}, A2 (TkA K Ls H) vs ps → DpAll K H vs ((ps.map (·.1)).map dTk)
  | _, _, .nil => .nil
  | _, _, .cons h r => .cons (dpTk h) (dpTkA r)
theorem dpApp {H : Hp} : ∀ {a c : List V} {b d : List PyData}, DpAll K H a b → DpAll K H c d → DpAll K H (a ++ c) (b ++ d)
  | _, _, _, _, .nil, h => h
  | _, _, _, _, .cons h t, g => .cons h (dpApp t g)
theorem lyBl (b : Bool) : Ly 1 (.bool b) := ⟨by simp [PyData.canLay0], by simp [PyData.depth]⟩
theorem lyTk (t : Tk) : Ly 5 (dTk t) := lyTup (lyCons ((lyPl _).up (by decide)) (lyCons ((lyTup (n := 1) (lyAll fun d hd => by
  obtain ⟨b, _, rfl⟩ := List.mem_map.mp hd
  exact lyBl b)).up (by decide)) (lyCons ((lyPl _).up (by decide)) (lyCons ((lyInt _).up (by decide)) (lyCons ((lyInt _).up (by decide)) (lyCons (lySms _) (lyNil _)))))))
theorem lyTks (ts : List Tk) : Ly 6 (.list (ts.map dTk)) := lyLst (lyAll fun d hd => by
  obtain ⟨t, _, rfl⟩ := List.mem_map.mp hd
  exact lyTk t)
theorem andP {t u : TT} {σ : L2.St} {H : Hp} {Q : Bool → Hp → Prop} (P' : Hp → Prop) (b : Bool) (h1 : ∀ R : Bool → Hp → Prop, R b H → t σ H R) (h0 : P' H) (h2 : ∀ R : Bool → Hp → Prop, (∀ H', P' H' → R false H') → u σ H R) (q : ∀ H', P' H' → Q false H') : tAnd t u σ H Q := h1 _ (by
  cases b with
  | true => exact iteT (h2 _ q)
  | false => exact iteF (q _ h0))
theorem TkA.but {Ls : List Addr} {H H' : Hp} {L : Addr} {xs : List V} {v : V} {t : Tk × Addr} (hL : L ∈ Ls) (e : But L H H') (h0 : H L = some (.lst xs)) (h : TkA K Ls H v t) : TkA K Ls H' v t := by
  obtain ⟨a, sa, tr, pa, wvs, e0, h1, h2, h3, h4, h5, h6, h7⟩ := h
  have t0 := butTL e h0
  exact ⟨a, sa, tr, pa, wvs, e0, tsTup t0 h1, tsTup t0 h2, tsTup t0 h3, tsTup t0 h4, e _ _ (fun z => h7 (by rw [z]; exact hL)) h5, sumsS t0 h6, h7⟩
theorem TkA.nil {Ls : List Addr} {H : Hp} {v : V} {t : Tk × Addr} (h : TkA K Ls H v t) : TkA K [] H v t := by
  obtain ⟨a, sa, tr, pa, wvs, e0, h1, h2, h3, h4, h5, h6, _⟩ := h
  exact ⟨a, sa, tr, pa, wvs, e0, h1, h2, h3, h4, h5, h6, fun z => by cases z⟩
theorem nodupAt {α β : Type} {f : α → β} {l : List α} {i : Nat} {x : α} (e : l[i]? = some x) (h : (l.map f).Nodup) : (∀ p ∈ l.take i, f x ≠ f p) ∧ (∀ p ∈ l.drop (i + 1), f x ≠ f p) ∧ ∀ p ∈ l.drop (i + 1), ∀ q ∈ l.take i, f p ≠ f q := by
  obtain ⟨hi, e1⟩ := List.getElem?_eq_some_iff.mp e
  have es : l = l.take i ++ x :: l.drop (i + 1) := by rw [← e1, ← List.drop_eq_getElem_cons hi, List.take_append_drop]
  rw [es, List.map_append, List.nodup_append, List.map_cons, List.nodup_cons] at h
  obtain ⟨_, ⟨h1, _⟩, h2⟩ := h
  refine ⟨fun p hp z => h2 _ (List.mem_map.mpr ⟨p, hp, rfl⟩) _ (List.mem_cons_self ..) z.symm, fun p hp z => h1 (by rw [z]; exact List.mem_map.mpr ⟨p, hp, rfl⟩), fun p hp q hq z => h2 _ (List.mem_map.mpr ⟨q, hq, rfl⟩) _ (List.mem_cons_of_mem _ (List.mem_map.mpr ⟨p, hp, rfl⟩)) z.symm⟩
/-- a kept list, none of these -/
def Kept6 (K : PySem.W.Frag) (H : Hp) (Ls : List Addr) (v : V) : Prop := ∃ (t f g : Addr) (vs : List V) (ss : List Sm) (m : Int), v = .ref t ∧ SqT K H t [.ref f, .ref g] ∧ f ∉ Ls ∧ g ∉ Ls ∧ H f = some (.lst (vs ++ [.int m])) ∧ H g = some (.lst (vs ++ [.int m])) ∧ A2 (SumIn K H) vs ss
theorem Kept6.same {H H' : Hp} {Ls : List Addr} {v : V} (e : Same H H') (h : Kept6 K H Ls v) : Kept6 K H' Ls v := by
  obtain ⟨t, f, g, vs, ss, m, e0, h1, h2, h3, h4, h5, h6⟩ := h
  exact ⟨t, f, g, vs, ss, m, e0, tupS e h1, h2, h3, e _ _ h4, e _ _ h5, sumsS (tsOf e) h6⟩
theorem Kept6.mut {H : Hp} {Ls : List Addr} {L : Addr} {xs ys : List V} {v : V} (hL : L ∈ Ls) (e : H L = some (.lst xs)) (h : Kept6 K H Ls v) : Kept6 K (upd H L (.lst ys)) Ls v := by
  obtain ⟨t, f, g, vs, ss, m, e0, h1, h2, h3, h4, h5, h6⟩ := h
  have t0 : TS H (upd H L (.lst ys)) := tsLst e
  exact ⟨t, f, g, vs, ss, m, e0, tsTup t0 h1, h2, h3, by rw [upd_ne (fun z => h2 (by rw [z]; exact hL))]; exact h4, by rw [upd_ne (fun z => h3 (by rw [z]; exact hL))]; exact h5, sumsS t0 h6⟩
theorem Kept6.less {H : Hp} {Ls Ms : List Addr} {v : V} (l : ∀ a ∈ Ms, a ∈ Ls) (h : Kept6 K H Ls v) : Kept6 K H Ms v := by
  obtain ⟨t, f, g, vs, ss, m, e0, h1, h2, h3, h4⟩ := h
  exact ⟨t, f, g, vs, ss, m, e0, h1, fun z => h2 (l _ z), fun z => h3 (l _ z), h4⟩
theorem Kept6.to5 {H : Hp} {kp : Addr} {Ls : List Addr} {v : V} (hk : kp ∈ Ls) (h : Kept6 K H Ls v) : Kept5 K H kp v := by
  obtain ⟨t, f, g, vs, ss, m, e0, h1, h2, h3, h4⟩ := h
  exact ⟨t, f, g, vs, ss, m, e0, h1, fun z => h2 (by rw [z]; exact hk), fun z => h3 (by rw [z]; exact hk), h4⟩
theorem Kept5.to6 {H : Hp} {kp : Addr} {Ls : List Addr} {v : V} (hn : ∀ a ∈ Ls, a = kp ∨ H a = none) (h : Kept5 K H kp v) : Kept6 K H Ls v := by
  obtain ⟨t, f, g, vs, ss, m, e0, h1, h2, h3, h4, h5, h6⟩ := h
  exact ⟨t, f, g, vs, ss, m, e0, h1, fun z => (hn _ z).elim h2 (fun q => by rw [q] at h4; cases h4), fun z => (hn _ z).elim h3 (fun q => by rw [q] at h5; cases h5), h4, h5, h6⟩
def spLaw (K : PySem.W.Frag) : Sp := fun vs H Q _ => ∃ (a : Addr) (ns : List Int), vs = [.ref a] ∧ SqL K H a (ns.map V.int) ∧ ns.length ≤ 63 ∧ ∀ H', Q (.bl true) H'
abbrev s_law : Stmt := topS 56
theorem sc_law : FnScope ["_law_script", "_law_tops_here", "_law_rows_here", "_law_code_here", "_law_program_here", "_law_due_here", "_law_kept", "_law_bit", "_law_turn", "_law_found", "_law_task", "_law_pair"] ["_law_script"] (defScope s_law) := ⟨rfl, rfl, rfl, by decide +kernel, rfl, by decide +kernel, by decide +kernel⟩

theorem ok_law {f C CB : Addr} {fd : FuncData} {k : Nat} (F : Fun K "law" "law" s_law f fd) (B : Bl mg) (cp : ClsP K C) (c__law_program : C8.Cal P w K mg base (k + 1) "_law_program" (spProgG K) []) (c__law_at : C8.Cal P w K mg base (k + 1) "_law_at" (spAt K) []) (c__law_code : C8.Cal P w K mg base (k + 1) "_law_code" (spCode K 4) []) (c__law_due : C8.Cal P w K mg base (k + 1) "_law_due" (spDue K) []) (c_tasks : C8.Cal P w K mg base (k + 1) "tasks" (spTasks K C) []) (c__law_kinds_good : C8.Cal P w K mg base (k + 1) "_law_kinds_good" (spKinds K) []) (c__law_words_right : C8.Cal P w K mg base (k + 1) "_law_words_right" (spWR K C) []) (q_Program : CalC P w K mg base k C "Program" (spInit K C CB)) :
    FnOk P w K mg base CX0 (k + 2) f fd ["_law_script"] (spLaw K) := by
  refine F.ok sc_law (fun vs H Q E h => ?_) (fun cdv A outer s H vs Q E hr h => ?_)
  · obtain ⟨a, ns, rfl, _⟩ := h
    rfl
  obtain ⟨a, ns, rfl, hS, h63, q⟩ := h
  refine ⟨_, (pss_cons (ps_asg (C8.pe_c c__law_program hr (Nat.le_refl _) (by rfl) (pa_cons (pv 0) (pa_cons pe_int pa_nil))) (kT2 (K := K) rfl rfl (pg_name (i := 1) sc_law.nd rfl (.inl rfl)) (pg_name (i := 2) sc_law.nd rfl (.inl rfl))))
    (pss_cons (ps_set (i := 3) sc_law.nd rfl (.inl rfl) (pe_lst pa_nil))
    (pss_cons (ps_expr (C8.pe_c c__law_code hr (Nat.le_refl _) (by rfl) (pa_cons (pv 2) (pa_cons (pe_tup pa_nil) (pa_cons (pv 3) pa_nil)))))
    (pss_cons (ps_set (i := 4) sc_law.nd rfl (.inl rfl) (pC q_Program hr (by omega) (passes_call takes0 (fun _ _ _ _ h => h)) (pa_cons (pe_callTy (kList (K := K) rfl) (by rfl) B.list (by decide +kernel) (pa_cons (pv 1) pa_nil)) (pa_cons (pv 2) pa_nil))))
    (pss_cons (ps_set (i := 5) sc_law.nd rfl (.inl rfl) (C8.pe_c c__law_due hr (Nat.le_refl _) (by rfl) (pa_cons (pv 3) (pa_cons (pv 1) pa_nil))))
    (pss_cons (ps_set (i := 6) sc_law.nd rfl (.inl rfl) (pe_lst pa_nil))
    (pss_cons (ps_set (i := 7) sc_law.nd rfl (.inl rfl) (pe_op op_mod (C8.pe_c c__law_at hr (Nat.le_refl _) (by rfl) (pa_cons (pv 0) (pa_cons pe_int pa_nil))) pe_int))
    (pss_cons (ps_for PassesOwn.never rfl (pi_range1 (by rfl) B.range (pa_cons pe_int pa_nil)) (pg_name (i := 8) sc_law.nd rfl (.inl rfl))
      (pss_cons (ps_if (PW.pt (pw_and (pt_cmpR op_eq (pv 8) (pv 7) (nomark _)) (pw_and1 (pt_not (pt_val (C8.pe_c c__law_words_right hr (Nat.le_refl _) (by rfl) (pa_cons (pv 4) (pa_cons (pv 3) (pa_cons (pv 1) (pa_cons (pv 6) pa_nil))))))))))
        (pss_one (ps_ret pe_bl))
        pss_nil)
      (pss_cons (ps_set (i := 9) sc_law.nd rfl (.inl rfl) (C8.pe_c c_tasks hr (Nat.le_refl _) (by rfl) (pa_cons (pv 4) pa_nil)))
      (pss_cons (ps_if (PW.pt (pw_or (pt_not (pt_val (pe_callB (kIsi (K := K) rfl) (by rfl) B.isinstance (by decide +kernel) (pa_cons (pv 9) (pa_cons (pe_bltn (v := .ty "list") (by rfl) B.list (by decide +kernel) rfl) pa_nil))))) (pw_or (pt_cmpR (kNeD (K := K) rfl hr.units) (pv 9) (pv 5) (nomark _)) (pw_or1 (pt_cmpR (kNeD (K := K) rfl hr.units) (pe_lc (own := [("_law_task", 10)]) rfl sc_law.nd (kList_ (K := K) rfl (pv 9)) (blkOk_by (own := [("_law_task", 10)]) (N := ["_law_script", "_law_tops_here", "_law_rows_here", "_law_code_here", "_law_program_here", "_law_due_here", "_law_kept", "_law_bit", "_law_turn", "_law_found", "_law_task", "_law_pair"]) (sc := defScope s_law) (by decide +kernel)) (fun _ _ _ _ _ => (pgN (i := 10) sc_law.nd rfl (.inl rfl) (.inr rfl))) (fun _ _ _ _ _ => (pts_one (pt_not (pt_val (C8.pe_c c__law_kinds_good hr (Nat.le_refl _) (by rfl) (pa_cons (pv 10) pa_nil)))))) (fun _ _ _ _ _ => (pv 10))) (pe_lst pa_nil) (nomark _))))))
        (pss_one (ps_ret pe_bl))
        pss_nil)
      (pss_cons (ps_for PassesOwn.never rfl (kList_ (K := K) rfl (pv 9)) (pg_name (i := 10) sc_law.nd rfl (.inl rfl))
        (pss_cons (ps_expr (pe_bm PySem.F.plainAttrs_list PySem.F.slot_list_append PySem.F.type_list_append mt_append (pe_ix (kIxT (K := K) rfl) (pv 10) pe_int (fun _ _ => rfl)) (pa_cons (pv 8) pa_nil)))
        (pss_one (ps_expr (pe_bm PySem.F.plainAttrs_list PySem.F.slot_list_append PySem.F.type_list_append mt_append (pv 6) (pa_cons (pe_tup (pa_cons (pe_ix (kIxT (K := K) rfl) (pv 10) pe_int (fun _ _ => rfl)) (pa_cons (pe_callTy (kList (K := K) rfl) (by rfl) B.list (by decide +kernel) (pa_cons (pe_ix (kIxT (K := K) rfl) (pv 10) pe_int (fun _ _ => rfl)) pa_nil)) pa_nil))) pa_nil))))))
      (pss_cons (ps_expr (pe_bm PySem.F.plainAttrs_list PySem.F.slot_list_append PySem.F.type_list_append mt_append (pv 9) (pa_cons (pv 8) pa_nil)))
      (pss_one (ps_if (pt_not (pt_val (C8.pe_c c__law_words_right hr (Nat.le_refl _) (by rfl) (pa_cons (pv 4) (pa_cons (pv 3) (pa_cons (pv 1) (pa_cons (pv 6) pa_nil)))))))
        (pss_one (ps_ret pe_bl))
        pss_nil))))))))
    (pss_one (ps_ret (pe_cmpR (kEqD (K := K) rfl hr.units) (pe_lc (own := [("_law_pair", 11)]) rfl sc_law.nd (kList_ (K := K) rfl (pv 6)) (blkOk_by (own := [("_law_pair", 11)]) (N := ["_law_script", "_law_tops_here", "_law_rows_here", "_law_code_here", "_law_program_here", "_law_due_here", "_law_kept", "_law_bit", "_law_turn", "_law_found", "_law_task", "_law_pair"]) (sc := defScope s_law) (by decide +kernel)) (fun _ _ _ _ _ => (pgN (i := 11) sc_law.nd rfl (.inl rfl) (.inr rfl))) (fun _ _ _ _ _ => (pts_one (pt_cmpR (kNeD (K := K) rfl hr.units) (pe_ix (kIxT (K := K) rfl) (pv 11) pe_int (fun _ _ => rfl)) (pe_ix (kIxT (K := K) rfl) (pv 11) pe_int (fun _ _ => rfl)) (nomark _)))) (fun _ _ _ _ _ => (pv 11))) (pe_lst pa_nil) (nomark _)))))))))))), ?_⟩
  have szl : (10000000 : Nat) < sizeLine := by decide
  refine ⟨_, rfl, a, ns, 8, rfl, hS, h63, by decide, by decide, fun r0 tp H1 v0 tops rows s1 hr0 ntp htp tw hd hg hc => ?_⟩
  cases hd with
  | @tup a1 xs _ hT hA =>
  obtain ⟨R, rfl, hRW, hRd⟩ := rsOf 3 rows hg
  have ecn : cnt 4 (.tup R.ds) = R.num := rs_cnt R 3 hRd
  have hN : R.num ≤ 9 := by omega
  have lcl := clen_le R
  refine ⟨_, _, rfl, hr0, rfl, _, _, rfl, _, _, rfl, rfl, ?_⟩
  refine ⟨by show 0 ≤ sizeLine; decide, fun Cd nCd => ?_⟩
  have sC := sameNew (o := .lst []) nCd
  refine ⟨_, rfl, by show 0 ≤ sizeLine; decide, fun T nT => ?_⟩
  have sT := sameNew (o := .tup []) nT
  have s1T := Same.trans sC sT
  refine ⟨_, rfl, a1, T, Cd, xs, [], R, [], .top, [], rfl, tupS s1T hT, dinASame s1T hA, .of upd_same, sT _ _ upd_same, .nil, by omega, by decide, by simp; omega, fun cs H3 b3 hC3 hD3 => ?_⟩
  have s13 : Same H1 H3 := fun b o ho => b3 b o (fun z => by rw [z, nCd] at ho; cases ho) (s1T b o ho)
  have hD3 : DinA K H3 cs ((codeOf R).map De.d) := by simpa [codeOf] using hD3
  have htp3 := s13 _ _ htp
  have nCtp : Cd ≠ tp := fun z => by rw [z, htp] at nCd; cases nCd
  have nT1 : H1 T = none := Same.free sC nT
  generalize upd (upd H1 Cd (.lst [])) T (.tup []) = Hx at *
  -- the program
  refine ⟨_, rfl, _, _, rfl, .inl (.of htp3), fun Hd nHd => ?_⟩
  have hHd : upd H3 Hd (.lst (tops.map V.int)) Hd = some (.lst (tops.map V.int)) := upd_same
  have s3 := sameNew (o := .lst (tops.map V.int)) nHd
  generalize upd H3 Hd (.lst (tops.map V.int)) = H4 at *
  refine ⟨_, rfl, fun x dx nx ndx nex => ?_⟩
  have s4 : Same H4 (upd (upd H4 dx (.own x)) x (.ins C dx [])) := Same.trans (sameNew ndx) (sameNew (by rw [upd_ne (Ne.symm nex)]; exact nx))
  have l2 : (tops.map D.int).length = tops.length := List.length_map _
  have gd : good (tops.map D.int).length 4 (.tup R.ds) = true := by rw [l2]; exact good_tup hg
  have hck := chk_some gd (by omega)
  have ty := topsYes tw
  have s14 := Same.trans s13 (Same.trans s3 s4)
  refine ⟨x, dx, _, _, rfl, upd_same, .inr ⟨Hd, _, tops.map D.int, rfl, .of (s4 _ _ hHd), dinInts tops, fun z => (by rw [ty] at z; cases z), fun _ => ⟨.tup R.ds, .tup (tupS s14 hT) (dinASame s14 hA), fun z => (by rw [hck] at z; cases z), fun n hn H5 t keep hx5 ht5 => ⟨rfl, ?_⟩⟩⟩⟩
  have s45 : Same H4 H5 := fun b o ho => keep b o (fun z => by rw [z, nx] at ho; cases ho) (s4 _ _ ho)
  have s35 := Same.trans s3 s45
  have s15 := Same.trans s13 s35
  have hp5 : PgIn K H5 C x tops R := ⟨a1, xs, ⟨dx, t, hx5, ht5⟩, tupS s15 hT, dinASame s15 hA, hg, hRW, hRd, by omega, tw⟩
  have htp5 := s15 _ _ htp
  have hC5 := s35 _ _ hC3
  have hD5 := dinASame s35 hD3
  clear keep hx5 ht5 s45 s4 s3 hck gd nx ndx nex hHd nHd
  -- what is due
  refine ⟨_, rfl, _, rfl, Cd, tp, cs, tops, R, rfl, hC5, hD5, htp5, tw, hRW, by omega, hRd, fun du dus H6 ndu s6 hdu hdus ldu => ?_⟩
  refine ⟨by show 0 ≤ sizeLine; decide, fun kp nkp => ?_⟩
  have skp := sameNew (o := .lst []) nkp
  refine ⟨_, rfl, a, ns, 50, rfl, Same.seq (Same.trans s1 (Same.trans s15 (Same.trans s6 skp))) hS, h63, by decide, by decide, fun cell c0 c1 => ?_⟩
  have s57 := Same.trans s6 skp
  have s17 := Same.trans s15 s57
  have hk7 : upd H6 kp (.lst []) kp = some (.lst []) := upd_same
  have hp7 := hp5.same s57
  have htp7 := s57 _ _ htp5
  have hC7 := s57 _ _ hC5
  have hD7 := dinASame s57 hD5
  have hdu7 := skp _ _ hdu
  have hdus7 : A2 (TkF K kp (upd H6 kp (.lst []))) dus (tasksP tops R) := A2.map (B' := tasksP tops R) (fun _ _ _ r => by
    obtain ⟨w, r⟩ := r
    have hw := r.has
    obtain ⟨a, sa, tr, pa, wvs, e0, h1, h2, h3, h4, h5, h6, _⟩ := r.same skp
    exact ⟨w, a, sa, tr, pa, wvs, e0, h1, h2, h3, h4, h5, h6, fun z => hw (by rw [show w = kp from List.mem_singleton.mp z]; exact nkp)⟩) (fun _ m => m) hdus
  have nCk : Cd ≠ kp := fun z => by rw [← z, s6 _ _ hC5] at nkp; cases nkp
  have nTk : tp ≠ kp := fun z => by rw [← z, s6 _ _ htp5] at nkp; cases nkp
  have ndk : du ≠ kp := fun z => by rw [← z, hdu] at nkp; cases nkp
  generalize upd H6 kp (.lst []) = H7 at *
  have kk : kp ∈ [kp] := List.mem_singleton.mpr rfl
  refine ⟨_, _, rfl, rfl, (show (0 : Int) < 2 by decide), ?_⟩
  refine ⟨_, rfl, by decide, by decide, ?_⟩
  refine for_range (lo := 0) (n := 2) (fun j σ H' => But kp H7 H' ∧ ∃ (ks : List V) (y8 y9 y10 : Option V), σ = [some (.ref a), some (.ref tp), some (.ref a1), some (.ref Cd), some (.ref x), some (.ref du), some (.ref kp), some (.int (cell % 2)), y8, y9, y10, none] ∧ H' kp = some (.lst ks) ∧ (∀ v ∈ ks, Kept5 K H' kp v) ∧ ks.length ≤ 3000100 * j)
    ⟨But.refl _ _, [], none, none, none, rfl, hk7, (by intro v hv; cases hv), Nat.zero_le _⟩ (fun j σ H8 hj z => ?_) (fun σ H8 z => ?_)
  · obtain ⟨b8, ks8, y8, y9, y10, rfl, hk8, hks8, len8⟩ := z
    refine andP (fun H' => But kp H7 H' ∧ ∃ ks : List V, H' kp = some (.lst ks) ∧ (∀ v ∈ ks, Kept5 K H' kp v) ∧ ks.length ≤ 3000100 * j + 24) (decide (V.int (0 + (j : Int)) = V.int (cell % 2))) (fun R' r => ⟨_, rfl, _, rfl, rfl, _, rfl, r⟩) ⟨b8, ks8, hk8, hks8, by omega⟩ (fun R' r => ⟨_, rfl, _, rfl, _, rfl, _, rfl, x, Cd, tp, kp, cs, ks8, tops, R, rfl, hp7.but b8 hk7, b8 _ _ nCk hC7, dinATS (butTL b8 hk7) (desPure _) hD7, b8 _ _ nTk htp7, hk8, hks8, nCk, nTk, by omega, fun ks' H' b' hk' hks' len' => ⟨_, rfl, r _ ⟨b8.trans b', ks', hk', hks', by omega⟩⟩⟩) ?_
    clear b8 hk8 hks8 len8 ks8
    rintro H8 ⟨b8, ks8, hk8, hks8, len8⟩
    refine iteF ?_
    refine ⟨_, rfl, x, tops, R, rfl, hp7.but b8 hk7, fun fl fus H9 nfl s9 hfl htk hgood lfus => ?_⟩
    obtain ⟨ps, eps, hA2, hnd, hnone⟩ := htk
    have b9 := b8.trans (butOf s9)
    have hk9 := s9 _ _ hk8
    have hdu9 := b9 _ _ ndk hdu7
    have hdus9 : A2 (TkD K H9) dus (tasksP tops R) := tkfD (A2.map (B' := tasksP tops R) (fun _ _ _ r => r.imp fun w h => h.but kk b9 hk7) (fun _ m => m) hdus7)
    refine ⟨_, rfl, _, _, _, _, true, rfl, .ty _, tyLst (.of hfl), kit_ty (by decide +kernel), _, rfl, ?_⟩
    refine iteF ⟨_, rfl, _, rfl, .list ((tasksP tops R).map dTk), .list ((tasksP tops R).map dTk), .lst (.of hfl) (by rw [← eps]; exact dpTkA hA2), .lst (.of hdu9) (dpTkD hdus9), (lyTks _).shaped (by decide), (lyTks _).shaped (by decide), _, rfl, ?_⟩
    rw [(lyTks _).same]
    refine iteF ?_
    refine ⟨_, rfl, fl, rfl, ⟨_, .of hfl⟩, fun D nD => ?_⟩
    have hkp' := hA2.len
    refine lc_it (walk_list (xs := fus)) (fun _ H1 => H1 D = some (.lst []) ∧ Same H9 H1) ⟨upd_same, sameNew nD⟩ (fun i H1 _ p => .of (p.2 _ _ hfl)) (fun i v H1 H2 hi p y => ?_) (fun H10 p => ?_)
    · obtain ⟨rfl, ex⟩ := y
      obtain ⟨pt, ep, hTk⟩ := A2.at hA2 ex
      refine ⟨rfl, ?_⟩
      have mg : pt.1 ∈ tasksP tops R := by rw [← eps]; exact List.mem_map.mpr ⟨pt, List.mem_of_getElem? ep, rfl⟩
      refine ⟨_, rfl, v, pt, tops.length, rfl, (hTk.same p.2).nil, hgood _ mg, tw.2.1, fun H' s' => ⟨_, rfl, ?_⟩⟩
      exact iteF ⟨s' _ _ p.1, Same.trans p.2 s'⟩
    refine ⟨by show 0 ≤ sizeLine; decide, fun N nN => ?_⟩
    refine ⟨.list [], .list [], .lst (.of (sameNew nN _ _ p.1)) .nil, .lst (.of upd_same) .nil, rfl, rfl, _, rfl, ?_⟩
    have s10 := Same.trans p.2 (sameNew (o := .lst []) nN)
    generalize upd H10 N (.lst []) = H11 at *
    refine iteF ?_
    refine ⟨_, rfl, fl, rfl, ⟨_, .of (s10 _ _ hfl)⟩, ?_⟩
    have nfk : fl ≠ kp := fun z => by rw [z, hk8] at nfl; cases nfl
    have s8B := Same.trans s9 s10
    have hkB := s8B _ _ hk8
    have hflB := s10 _ _ hfl
    have hA2B : A2 (TkA K [fl] H11) fus ps := A2.map (B' := ps) (fun _ _ _ r => r.same s10) (fun _ m => m) hA2
    have nwk : ∀ p ∈ ps, p.2 ≠ kp := fun p hp z => by have := hnone p hp; rw [z, hk8] at this; cases this
    have nwf : ∀ p ∈ ps, p.2 ≠ fl := fun p hp z => by
      obtain ⟨u, _, r⟩ := a2All hA2B p hp
      obtain ⟨_, _, _, _, _, _, _, _, _, _, _, _, r⟩ := r
      exact r (by rw [z]; exact List.mem_singleton.mpr rfl)
    have hks0 : ∀ v ∈ ks8, Kept6 K H11 (kp :: fl :: ps.map (·.2)) v := fun v hv => ((hks8 v hv).to6 (fun b hb => by
      rcases List.mem_cons.mp hb with e | hb
      · exact .inl e
      rcases List.mem_cons.mp hb with e | hb
      · exact .inr (by rw [e]; exact nfl)
      · obtain ⟨p, hp, rfl⟩ := List.mem_map.mp hb
        exact .inr (hnone p hp))).same s8B
    refine for_it (walk_list (xs := fus)) (fun i σ H' => (∀ b o, b ≠ kp → (∀ p ∈ ps.take i, b ≠ p.2) → H11 b = some o → H' b = some o) ∧ TS H11 H' ∧ ∃ (ks : List V) (y10 : Option V), σ = [some (.ref a), some (.ref tp), some (.ref a1), some (.ref Cd), some (.ref x), some (.ref du), some (.ref kp), some (.int (cell % 2)), some (.int (0 + (j : Int))), some (.ref fl), y10, none] ∧ H' kp = some (.lst ks) ∧ (∀ v ∈ ks, Kept6 K H' (kp :: fl :: (ps.drop i).map (·.2)) v) ∧ ks.length ≤ 3000100 * j + 24 + i)
      ⟨fun b o _ _ h => h, TS.refl _, ks8, y10, rfl, hkB, by simpa using hks0, by omega⟩ (fun i σ H' _ p => .of (p.1 _ _ nfk (fun p hp z => nwf p (List.mem_of_mem_take hp) z.symm) hflB)) (fun i v σ H12 H12' hi p y => ?_) (fun σ H12 p => ?_)
    · obtain ⟨r12, t12, ks12, y10', rfl, hk12, hks12, len12⟩ := p
      obtain ⟨rfl, ex⟩ := y
      obtain ⟨⟨tk, w'⟩, ep, hTk⟩ := A2.at hA2B ex
      have mp := List.mem_of_getElem? ep
      obtain ⟨ta, tsa, ttr, tpa, twv, rfl, q1, q2, q3, q4, q5, q6, _⟩ := hTk
      dsimp only at q1 q5 q6
      obtain ⟨na, nb, nc⟩ := nodupAt (f := fun p : Tk × Addr => p.2) ep hnd
      dsimp only at na nb nc
      have ew : H12' w' = some (.lst twv) := r12 _ _ (nwk _ mp) na q5
      have mg : tk ∈ tasksP tops R := by rw [← eps]; exact List.mem_map.mpr ⟨_, mp, rfl⟩
      have lsum := (hgood _ mg).2.2.1
      have ltw := q6.len
      have nwk' : w' ≠ kp := nwk _ mp
      have nwf' : w' ≠ fl := nwf _ mp
      have q1' := tsTup t12 q1
      refine ⟨_, rfl, _, _, _, _, rfl, rfl, q1', atI_nat (j := 5) rfl, .inl ⟨rfl, _, .of ew⟩, _, rfl, w', twv, _, rfl, rfl, ew, by omega, ?_⟩
      have t13 : TS H12' (upd H12' w' (.lst (twv ++ [.int (0 + (j : Int))]))) := tsLst ew
      have ew13 : upd H12' w' (.lst (twv ++ [.int (0 + (j : Int))])) w' = some (.lst (twv ++ [.int (0 + (j : Int))])) := upd_same
      have ne13 : ∀ b, b ≠ w' → upd H12' w' (.lst (twv ++ [.int (0 + (j : Int))])) b = H12' b := fun b hb => upd_ne hb
      have hks13 : ∀ v ∈ ks12, Kept6 K (upd H12' w' (.lst (twv ++ [.int (0 + (j : Int))]))) (kp :: fl :: (ps.drop i).map (·.2)) v := fun v hv => (hks12 v hv).mut (by
        refine List.mem_cons_of_mem _ (List.mem_cons_of_mem _ (List.mem_map.mpr ⟨(tk, w'), ?_, rfl⟩))
        obtain ⟨hi', e1⟩ := List.getElem?_eq_some_iff.mp ep
        rw [List.drop_eq_getElem_cons hi', e1]
        exact List.mem_cons_self ..) ew
      generalize upd H12' w' (.lst (twv ++ [.int (0 + (j : Int))])) = H13 at *
      have hk13 : H13 kp = some (.lst ks12) := by rw [ne13 _ (Ne.symm nwk')]; exact hk12
      have q1'' := tsTup t13 q1'
      have lfu : fus.length ≤ 3000000 := lfus
      refine ⟨_, rfl, .inl ⟨rfl, _, .of hk13⟩, _, rfl, _, _, _, _, rfl, rfl, q1'', atI_nat (j := 5) rfl, _, rfl, _, _, _, _, rfl, rfl, q1'', atI_nat (j := 5) rfl, w', _, rfl, .inl (.of ew13), fun g ng => ⟨by show 2 ≤ sizeLine; decide, fun U nU => ?_⟩⟩
      have sg := sameNew (o := .lst (twv ++ [.int (0 + (j : Int))])) ng
      have sU := sameNew (o := .tup [.ref w', .ref g]) nU
      have s15 := Same.trans sg sU
      have hk15 := s15 _ _ hk13
      have hg15 := sU _ _ (show upd H13 g (.lst (twv ++ [.int (0 + (j : Int))])) g = _ from upd_same)
      have hw15 := s15 _ _ ew13
      have hU15 : upd (upd H13 g (.lst (twv ++ [.int (0 + (j : Int))]))) U (.tup [.ref w', .ref g]) U = some (.tup [.ref w', .ref g]) := upd_same
      generalize upd (upd H13 g (.lst (twv ++ [.int (0 + (j : Int))]))) U (.tup [.ref w', .ref g]) = H15 at *
      refine ⟨kp, ks12, _, rfl, rfl, hk15, by omega, ?_⟩
      have t15 : TS H11 H15 := TS.trans t12 (TS.trans t13 (tsOf s15))
      have g13 : ∀ b, H13 b ≠ none → g ≠ b := fun b hb z => hb (by rw [← z]; exact ng)
      have sub : ∀ b ∈ kp :: fl :: (ps.drop (i + 1)).map (·.2), b ∈ kp :: fl :: (ps.drop i).map (·.2) := fun b hb => by
        rcases List.mem_cons.mp hb with e | hb
        · rw [e]; exact List.mem_cons_self ..
        rcases List.mem_cons.mp hb with e | hb
        · rw [e]; exact List.mem_cons_of_mem _ (List.mem_cons_self ..)
        obtain ⟨p, hp, rfl⟩ := List.mem_map.mp hb
        refine List.mem_cons_of_mem _ (List.mem_cons_of_mem _ (List.mem_map.mpr ⟨p, ?_, rfl⟩))
        rw [← List.drop_drop] at hp
        exact List.mem_of_mem_drop hp
      have hnew : Kept6 K H15 (kp :: fl :: (ps.drop (i + 1)).map (·.2)) (.ref U) := by
        refine ⟨U, w', g, twv, tk.sums, _, rfl, .of hU15, fun hb => ?_, fun hb => ?_, hw15, hg15, sumsS t15 q6⟩
        · rcases List.mem_cons.mp hb with e | hb
          · exact nwk' e
          rcases List.mem_cons.mp hb with e | hb
          · exact nwf' e
          obtain ⟨p, hp, e⟩ := List.mem_map.mp hb
          exact nb p hp e.symm
        · rcases List.mem_cons.mp hb with e | hb
          · exact g13 kp (by rw [hk13]; simp) e
          rcases List.mem_cons.mp hb with e | hb
          · refine g13 fl ?_ e
            rw [ne13 _ (Ne.symm nwf'), r12 _ _ nfk (fun p hp z => nwf p (List.mem_of_mem_take hp) z.symm) hflB]
            simp
          obtain ⟨p, hp, e⟩ := List.mem_map.mp hb
          have mp2 := List.mem_of_mem_drop hp
          obtain ⟨u2, _, r2⟩ := a2All hA2B p mp2
          have hh := r2.has
          cases eh : H11 p.2 with
          | none => exact hh eh
          | some o =>
            refine g13 p.2 ?_ e.symm
            rw [ne13 _ (Ne.symm (nb p hp)), r12 _ _ (nwk _ mp2) (nc p hp) eh]
            simp
      refine ⟨fun b o hb hb2 ho => ?_, TS.trans t15 (tsLst hk15), ks12 ++ [.ref U], _, rfl, upd_same, fun v hv => ?_, by rw [List.length_append, List.length_singleton]; omega⟩
      · rw [List.take_succ, ep] at hb2
        rw [upd_ne hb]
        refine s15 _ _ ?_
        rw [ne13 _ (hb2 (tk, w') (by simp))]
        exact r12 _ _ hb (fun p hp => hb2 p (List.mem_append_left _ hp)) ho
      · have kin : kp ∈ kp :: fl :: (ps.drop (i + 1)).map (·.2) := List.mem_cons_self ..
        rcases List.mem_append.mp hv with hv | hv
        · exact (((hks13 v hv).same s15).less sub).mut kin hk15
        · rw [List.mem_singleton.mp hv]
          exact hnew.mut kin hk15
    · obtain ⟨r12, t12, ks12, y10', rfl, hk12, hks12, len12⟩ := p
      have hfl12 : H12 fl = some (.lst fus) := r12 _ _ nfk (fun p hp z => nwf p (List.mem_of_mem_take hp) z.symm) hflB
      have lfu : fus.length ≤ 3000000 := lfus
      refine ⟨_, rfl, .inl ⟨rfl, _, .of hfl12⟩, _, rfl, fl, fus, _, rfl, rfl, hfl12, by omega, ?_⟩
      have b13 : But kp H7 (upd H12 fl (.lst (fus ++ [.int (0 + (j : Int))]))) := fun b o hb ho => by
        have h8 := b8 b o hb ho
        rw [upd_ne (fun z => by rw [z, nfl] at h8; cases h8)]
        exact r12 _ _ hb (fun p hp z => by have := hnone p (List.mem_of_mem_take hp); rw [← z, h8] at this; cases this) (s8B _ _ h8)
      have hk13 : upd H12 fl (.lst (fus ++ [.int (0 + (j : Int))])) kp = some (.lst ks12) := by rw [upd_ne (Ne.symm nfk)]; exact hk12
      have hks13 : ∀ v ∈ ks12, Kept5 K (upd H12 fl (.lst (fus ++ [.int (0 + (j : Int))]))) kp v := fun v hv => ((hks12 v hv).mut (List.mem_cons_of_mem _ (List.mem_cons_self ..)) hfl12).to5 (List.mem_cons_self ..)
      generalize upd H12 fl (.lst (fus ++ [.int (0 + (j : Int))])) = H13 at *
      refine ⟨_, rfl, _, rfl, _, rfl, _, rfl, x, Cd, tp, kp, cs, ks12, tops, R, rfl, hp7.but b13 hk7, b13 _ _ nCk hC7, dinATS (butTL b13 hk7) (desPure _) hD7, b13 _ _ nTk htp7, hk13, hks13, nCk, nTk, by omega, fun ks' H' b' hk' hks' len' => ⟨_, rfl, ?_⟩⟩
      exact iteF ⟨b13.trans b', ks', _, _, _, rfl, hk', hks', by omega⟩
  · obtain ⟨b8, ks8, y8, y9, y10, rfl, hk8, hks8, len8⟩ := z
    refine ⟨_, rfl, kp, rfl, ⟨_, .of hk8⟩, fun D nD => ?_⟩
    refine lc_it (walk_list (xs := ks8)) (fun _ H1 => H1 D = some (.lst []) ∧ Same H8 H1) ⟨upd_same, sameNew nD⟩ (fun i H1 _ p => .of (p.2 _ _ hk8)) (fun i v H1 H2 hi p y => ?_) (fun H10 p => ?_)
    · obtain ⟨rfl, ex⟩ := y
      obtain ⟨t', f', g', vs', ss', m', rfl, e1, _, _, e4, e5, e6⟩ := hks8 v (List.mem_of_getElem? ex)
      have ly : Ly 4 (.list (ss'.map dS ++ [.int m'])) := lyLst (lyAll fun d hd => by
        rcases List.mem_append.mp hd with hd | hd
        · obtain ⟨s', _, rfl⟩ := List.mem_map.mp hd
          exact lySum s'
        · rw [List.mem_singleton.mp hd]
          exact (lyInt _).up (by decide))
      have dpa : DpAll K H2 (vs' ++ [.int m']) (ss'.map dS ++ [.int m']) := dpApp (dpSms (sumsS (tsOf p.2) e6)) (.cons (.int _) .nil)
      refine ⟨rfl, ?_⟩
      refine ⟨_, rfl, _, _, _, _, rfl, rfl, tupS p.2 e1, atI_nat (j := 0) rfl, _, rfl, _, _, _, _, rfl, rfl, tupS p.2 e1, atI_nat (j := 1) rfl, .list (ss'.map dS ++ [.int m']), .list (ss'.map dS ++ [.int m']), .lst (.of (p.2 _ _ e4)) dpa, .lst (.of (p.2 _ _ e5)) dpa, ly.shaped (by decide), ly.shaped (by decide), _, rfl, ?_⟩
      rw [ly.same]
      exact iteF p
    refine ⟨by show 0 ≤ sizeLine; decide, fun N nN => ?_⟩
    refine ⟨.list [], .list [], .lst (.of (sameNew nN _ _ p.1)) .nil, .lst (.of upd_same) .nil, rfl, rfl, ?_⟩
    exact q _

end

end LW

namespace LW
open PySem PySem.Spec PyProof.Rows L2
theorem calMk {P : Program} {w : World} {K : PySem.W.Frag} {mg : Str → Option Value} {base : Heap} {j k : Nat} {x : Str} {sp : Sp} {f : Addr} {fd : FuncData} {ps : List Str} (F : FnOk P w K mg base CX0 j f fd ps sp) (hm : mg x = some (.ref f)) (kp : PySem.W.keepIn K (.ref f) = true) (b : Binds K fd ps []) (h : j ≤ k) : C8.Cal P w K mg base k x sp [] :=
  ⟨f, fd, ps, [], F.mono h, hm, kp, b, .nil⟩
theorem calXMk {P : Program} {w : World} {K : PySem.W.Frag} {mg : Str → Option Value} {base : Heap} {j k : Nat} {x : Str} {sp : Sp} {f : Addr} {fd : FuncData} {ps : List Str} (F : FnOk P w K mg base (L2.CX P w) j f fd ps sp) (hm : mg x = some (.ref f)) (kp : PySem.W.keepIn K (.ref f) = true) (b : Binds K fd ps []) (h : j ≤ k) : CalX P w K mg base k x sp :=
  ⟨f, fd, ps, F.mono h, hm, kp, b⟩
theorem vac {P : Program} {w : World} {K : PySem.W.Frag} {mg : Str → Option Value} {base : Heap} {CX : CXT} {k : Nat} {f : Addr} {fd : FuncData} {ps : List Str} {sp : Sp} (h : ∀ vs H Q E, ¬ sp vs H Q E) : FnOk P w K mg base CX k f fd ps sp :=
  ⟨fun vs H Q E z => absurd z (h vs H Q E), fun A outer s H args us vs Q E hr he hb hv z => absurd z (h vs H Q E)⟩
set_option maxHeartbeats 8000000
theorem all_mk {l : PySem.W.OpenLaw} {w : World} {K : PySem.W.Frag} {h : Heap} {mg : Str → Option Value} {fa : Addr} (X : K.In h) (G : h.Ns mainGlobals mg) (hfa : mg "law" = some (.ref fa))
    {C CB : Addr} (aC : PySem.W.nsIn K mainGlobals "Program" = some (some (.ref C))) (aB : PySem.W.nsIn K mainGlobals "BadProgram" = some (some (.ref CB)))
    {f1 : Addr} {od1 an1 : Option Addr} {sl1 : Array (Option Value)} {oc1 kV1 dc1 pm1 cd1 ct1 : Value} (a1 : PySem.W.nsIn K mainGlobals "rows_within" = some (some (.ref f1))) (l1 : K.lookup f1 = some ⟨oc1, od1, .func (PySem.W.fnOf "rows_within" "rows_within" (defArgs s_rows_within) (defBody s_rows_within) (defScope s_rows_within) .none kV1 dc1 pm1 an1 cd1 ct1), sl1⟩) (c1 : PySem.W.codeIn K cd1 "rows_within" = true) (k1 : PySem.W.keepIn K (.ref f1) = true)
    {f2 : Addr} {od2 an2 : Option Addr} {sl2 : Array (Option Value)} {oc2 kV2 dc2 pm2 cd2 ct2 : Value} (a2 : PySem.W.nsIn K mainGlobals "_loops_among" = some (some (.ref f2))) (l2 : K.lookup f2 = some ⟨oc2, od2, .func (PySem.W.fnOf "_loops_among" "_loops_among" (defArgs s__loops_among) (defBody s__loops_among) (defScope s__loops_among) .none kV2 dc2 pm2 an2 cd2 ct2), sl2⟩) (c2 : PySem.W.codeIn K cd2 "_loops_among" = true) (k2 : PySem.W.keepIn K (.ref f2) = true)
    {f3 : Addr} {od3 an3 : Option Addr} {sl3 : Array (Option Value)} {oc3 kV3 dc3 pm3 cd3 ct3 : Value} (a3 : PySem.W.nsIn K mainGlobals "_check_tops" = some (some (.ref f3))) (l3 : K.lookup f3 = some ⟨oc3, od3, .func (PySem.W.fnOf "_check_tops" "_check_tops" (defArgs s__check_tops) (defBody s__check_tops) (defScope s__check_tops) .none kV3 dc3 pm3 an3 cd3 ct3), sl3⟩) (c3 : PySem.W.codeIn K cd3 "_check_tops" = true) (k3 : PySem.W.keepIn K (.ref f3) = true)
    {f4 : Addr} {od4 an4 : Option Addr} {sl4 : Array (Option Value)} {oc4 kV4 dc4 pm4 cd4 ct4 : Value} (a4 : PySem.W.nsIn K mainGlobals "_check_rows" = some (some (.ref f4))) (l4 : K.lookup f4 = some ⟨oc4, od4, .func (PySem.W.fnOf "_check_rows" "_check_rows" (defArgs s__check_rows) (defBody s__check_rows) (defScope s__check_rows) .none kV4 dc4 pm4 an4 cd4 ct4), sl4⟩) (c4 : PySem.W.codeIn K cd4 "_check_rows" = true) (k4 : PySem.W.keepIn K (.ref f4) = true)
    {f5 : Addr} {od5 an5 : Option Addr} {sl5 : Array (Option Value)} {oc5 kV5 dc5 pm5 cd5 ct5 : Value} (a5 : PySem.W.nsIn K mainGlobals "_check_count" = some (some (.ref f5))) (l5 : K.lookup f5 = some ⟨oc5, od5, .func (PySem.W.fnOf "_check_count" "_check_count" (defArgs s__check_count) (defBody s__check_count) (defScope s__check_count) .none kV5 dc5 pm5 an5 cd5 ct5), sl5⟩) (c5 : PySem.W.codeIn K cd5 "_check_count" = true) (k5 : PySem.W.keepIn K (.ref f5) = true)
    {f6 : Addr} {od6 an6 : Option Addr} {sl6 : Array (Option Value)} {oc6 kV6 dc6 pm6 cd6 ct6 : Value} (a6 : PySem.W.nsIn K mainGlobals "_check_row" = some (some (.ref f6))) (l6 : K.lookup f6 = some ⟨oc6, od6, .func (PySem.W.fnOf "_check_row" "_check_row" (defArgs s__check_row) (defBody s__check_row) (defScope s__check_row) .none kV6 dc6 pm6 an6 cd6 ct6), sl6⟩) (c6 : PySem.W.codeIn K cd6 "_check_row" = true) (k6 : PySem.W.keepIn K (.ref f6) = true)
    {f7 : Addr} {od7 an7 : Option Addr} {sl7 : Array (Option Value)} {oc7 kV7 dc7 pm7 cd7 ct7 : Value} (a7 : PySem.W.nsIn K mainGlobals "_are_kept_words" = some (some (.ref f7))) (l7 : K.lookup f7 = some ⟨oc7, od7, .func (PySem.W.fnOf "_are_kept_words" "_are_kept_words" (defArgs s__are_kept_words) (defBody s__are_kept_words) (defScope s__are_kept_words) .none kV7 dc7 pm7 an7 cd7 ct7), sl7⟩) (c7 : PySem.W.codeIn K cd7 "_are_kept_words" = true) (k7 : PySem.W.keepIn K (.ref f7) = true)
    {f8 : Addr} {od8 an8 : Option Addr} {sl8 : Array (Option Value)} {oc8 kV8 dc8 pm8 cd8 ct8 : Value} (a8 : PySem.W.nsIn K mainGlobals "_is_sum" = some (some (.ref f8))) (l8 : K.lookup f8 = some ⟨oc8, od8, .func (PySem.W.fnOf "_is_sum" "_is_sum" (defArgs s__is_sum) (defBody s__is_sum) (defScope s__is_sum) .none kV8 dc8 pm8 an8 cd8 ct8), sl8⟩) (c8 : PySem.W.codeIn K cd8 "_is_sum" = true) (k8 : PySem.W.keepIn K (.ref f8) = true)
    {f9 : Addr} {od9 an9 : Option Addr} {sl9 : Array (Option Value)} {oc9 kV9 dc9 pm9 cd9 ct9 : Value} (a9 : PySem.W.nsIn K mainGlobals "_is_from_to" = some (some (.ref f9))) (l9 : K.lookup f9 = some ⟨oc9, od9, .func (PySem.W.fnOf "_is_from_to" "_is_from_to" (defArgs s__is_from_to) (defBody s__is_from_to) (defScope s__is_from_to) .none kV9 dc9 pm9 an9 cd9 ct9), sl9⟩) (c9 : PySem.W.codeIn K cd9 "_is_from_to" = true) (k9 : PySem.W.keepIn K (.ref f9) = true)
    {f10 : Addr} {od10 an10 : Option Addr} {sl10 : Array (Option Value)} {oc10 kV10 dc10 pm10 cd10 ct10 : Value} (a10 : PySem.W.nsIn K mainGlobals "value" = some (some (.ref f10))) (l10 : K.lookup f10 = some ⟨oc10, od10, .func (PySem.W.fnOf "value" "value" (defArgs s_value) (defBody s_value) (defScope s_value) .none kV10 dc10 pm10 an10 cd10 ct10), sl10⟩) (c10 : PySem.W.codeIn K cd10 "value" = true) (k10 : PySem.W.keepIn K (.ref f10) = true)
    {f11 : Addr} {od11 an11 : Option Addr} {sl11 : Array (Option Value)} {oc11 kV11 dc11 pm11 cd11 ct11 : Value} (a11 : PySem.W.nsIn K mainGlobals "opposite" = some (some (.ref f11))) (l11 : K.lookup f11 = some ⟨oc11, od11, .func (PySem.W.fnOf "opposite" "opposite" (defArgs s_opposite) (defBody s_opposite) (defScope s_opposite) .none kV11 dc11 pm11 an11 cd11 ct11), sl11⟩) (c11 : PySem.W.codeIn K cd11 "opposite" = true) (k11 : PySem.W.keepIn K (.ref f11) = true)
    {f12 : Addr} {od12 an12 : Option Addr} {sl12 : Array (Option Value)} {oc12 kV12 dc12 pm12 cd12 ct12 : Value} (a12 : PySem.W.nsIn K mainGlobals "put_in" = some (some (.ref f12))) (l12 : K.lookup f12 = some ⟨oc12, od12, .func (PySem.W.fnOf "put_in" "put_in" (defArgs s_put_in) (defBody s_put_in) (defScope s_put_in) .none kV12 dc12 pm12 an12 cd12 ct12), sl12⟩) (c12 : PySem.W.codeIn K cd12 "put_in" = true) (k12 : PySem.W.keepIn K (.ref f12) = true)
    {f13 : Addr} {od13 an13 : Option Addr} {sl13 : Array (Option Value)} {oc13 kV13 dc13 pm13 cd13 ct13 : Value} (a13 : PySem.W.nsIn K mainGlobals "behind" = some (some (.ref f13))) (l13 : K.lookup f13 = some ⟨oc13, od13, .func (PySem.W.fnOf "behind" "behind" (defArgs s_behind) (defBody s_behind) (defScope s_behind) .none kV13 dc13 pm13 an13 cd13 ct13), sl13⟩) (c13 : PySem.W.codeIn K cd13 "behind" = true) (k13 : PySem.W.keepIn K (.ref f13) = true)
    {f14 : Addr} {od14 an14 : Option Addr} {sl14 : Array (Option Value)} {oc14 kV14 dc14 pm14 cd14 ct14 : Value} (a14 : PySem.W.nsIn K mainGlobals "beginning" = some (some (.ref f14))) (l14 : K.lookup f14 = some ⟨oc14, od14, .func (PySem.W.fnOf "beginning" "beginning" (defArgs s_beginning) (defBody s_beginning) (defScope s_beginning) .none kV14 dc14 pm14 an14 cd14 ct14), sl14⟩) (c14 : PySem.W.codeIn K cd14 "beginning" = true) (k14 : PySem.W.keepIn K (.ref f14) = true)
    {f15 : Addr} {od15 an15 : Option Addr} {sl15 : Array (Option Value)} {oc15 kV15 dc15 pm15 cd15 ct15 : Value} (a15 : PySem.W.nsIn K mainGlobals "beyond" = some (some (.ref f15))) (l15 : K.lookup f15 = some ⟨oc15, od15, .func (PySem.W.fnOf "beyond" "beyond" (defArgs s_beyond) (defBody s_beyond) (defScope s_beyond) .none kV15 dc15 pm15 an15 cd15 ct15), sl15⟩) (c15 : PySem.W.codeIn K cd15 "beyond" = true) (k15 : PySem.W.keepIn K (.ref f15) = true)
    {f16 : Addr} {od16 an16 : Option Addr} {sl16 : Array (Option Value)} {oc16 kV16 dc16 pm16 cd16 ct16 : Value} (a16 : PySem.W.nsIn K mainGlobals "_rows_around" = some (some (.ref f16))) (l16 : K.lookup f16 = some ⟨oc16, od16, .func (PySem.W.fnOf "_rows_around" "_rows_around" (defArgs s__rows_around) (defBody s__rows_around) (defScope s__rows_around) .none kV16 dc16 pm16 an16 cd16 ct16), sl16⟩) (c16 : PySem.W.codeIn K cd16 "_rows_around" = true) (k16 : PySem.W.keepIn K (.ref f16) = true)
    {f17 : Addr} {od17 an17 : Option Addr} {sl17 : Array (Option Value)} {oc17 kV17 dc17 pm17 cd17 ct17 : Value} (a17 : PySem.W.nsIn K mainGlobals "asked" = some (some (.ref f17))) (l17 : K.lookup f17 = some ⟨oc17, od17, .func (PySem.W.fnOf "asked" "asked" (defArgs s_asked) (defBody s_asked) (defScope s_asked) .none kV17 dc17 pm17 an17 cd17 ct17), sl17⟩) (c17 : PySem.W.codeIn K cd17 "asked" = true) (k17 : PySem.W.keepIn K (.ref f17) = true)
    {f18 : Addr} {od18 an18 : Option Addr} {sl18 : Array (Option Value)} {oc18 kV18 dc18 pm18 cd18 ct18 : Value} (a18 : PySem.W.nsIn K mainGlobals "tasks" = some (some (.ref f18))) (l18 : K.lookup f18 = some ⟨oc18, od18, .func (PySem.W.fnOf "tasks" "tasks" (defArgs s_tasks) (defBody s_tasks) (defScope s_tasks) .none kV18 dc18 pm18 an18 cd18 ct18), sl18⟩) (c18 : PySem.W.codeIn K cd18 "tasks" = true) (k18 : PySem.W.keepIn K (.ref f18) = true)
    {f19 : Addr} {od19 an19 : Option Addr} {sl19 : Array (Option Value)} {oc19 kV19 dc19 pm19 cd19 ct19 : Value} (a19 : PySem.W.nsIn K mainGlobals "_ways" = some (some (.ref f19))) (l19 : K.lookup f19 = some ⟨oc19, od19, .func (PySem.W.fnOf "_ways" "_ways" (defArgs s__ways) (defBody s__ways) (defScope s__ways) .none kV19 dc19 pm19 an19 cd19 ct19), sl19⟩) (c19 : PySem.W.codeIn K cd19 "_ways" = true) (k19 : PySem.W.keepIn K (.ref f19) = true)
    {f20 : Addr} {od20 an20 : Option Addr} {sl20 : Array (Option Value)} {oc20 kV20 dc20 pm20 cd20 ct20 : Value} (a20 : PySem.W.nsIn K mainGlobals "_beginnings" = some (some (.ref f20))) (l20 : K.lookup f20 = some ⟨oc20, od20, .func (PySem.W.fnOf "_beginnings" "_beginnings" (defArgs s__beginnings) (defBody s__beginnings) (defScope s__beginnings) .none kV20 dc20 pm20 an20 cd20 ct20), sl20⟩) (c20 : PySem.W.codeIn K cd20 "_beginnings" = true) (k20 : PySem.W.keepIn K (.ref f20) = true)
    {f21 : Addr} {od21 an21 : Option Addr} {sl21 : Array (Option Value)} {oc21 kV21 dc21 pm21 cd21 ct21 : Value} (a21 : PySem.W.nsIn K mainGlobals "_further" = some (some (.ref f21))) (l21 : K.lookup f21 = some ⟨oc21, od21, .func (PySem.W.fnOf "_further" "_further" (defArgs s__further) (defBody s__further) (defScope s__further) .none kV21 dc21 pm21 an21 cd21 ct21), sl21⟩) (c21 : PySem.W.codeIn K cd21 "_further" = true) (k21 : PySem.W.keepIn K (.ref f21) = true)
    {f22 : Addr} {od22 an22 : Option Addr} {sl22 : Array (Option Value)} {oc22 kV22 dc22 pm22 cd22 ct22 : Value} (a22 : PySem.W.nsIn K mainGlobals "_both" = some (some (.ref f22))) (l22 : K.lookup f22 = some ⟨oc22, od22, .func (PySem.W.fnOf "_both" "_both" (defArgs s__both) (defBody s__both) (defScope s__both) .none kV22 dc22 pm22 an22 cd22 ct22), sl22⟩) (c22 : PySem.W.codeIn K cd22 "_both" = true) (k22 : PySem.W.keepIn K (.ref f22) = true)
    {f23 : Addr} {od23 an23 : Option Addr} {sl23 : Array (Option Value)} {oc23 kV23 dc23 pm23 cd23 ct23 : Value} (a23 : PySem.W.nsIn K mainGlobals "_of_one_box" = some (some (.ref f23))) (l23 : K.lookup f23 = some ⟨oc23, od23, .func (PySem.W.fnOf "_of_one_box" "_of_one_box" (defArgs s__of_one_box) (defBody s__of_one_box) (defScope s__of_one_box) .none kV23 dc23 pm23 an23 cd23 ct23), sl23⟩) (c23 : PySem.W.codeIn K cd23 "_of_one_box" = true) (k23 : PySem.W.keepIn K (.ref f23) = true)
    {f24 : Addr} {od24 an24 : Option Addr} {sl24 : Array (Option Value)} {oc24 kV24 dc24 pm24 cd24 ct24 : Value} (a24 : PySem.W.nsIn K mainGlobals "_law_at" = some (some (.ref f24))) (l24 : K.lookup f24 = some ⟨oc24, od24, .func (PySem.W.fnOf "_law_at" "_law_at" (defArgs s__law_at) (defBody s__law_at) (defScope s__law_at) .none kV24 dc24 pm24 an24 cd24 ct24), sl24⟩) (c24 : PySem.W.codeIn K cd24 "_law_at" = true) (k24 : PySem.W.keepIn K (.ref f24) = true)
    {f25 : Addr} {od25 an25 : Option Addr} {sl25 : Array (Option Value)} {oc25 kV25 dc25 pm25 cd25 ct25 : Value} (a25 : PySem.W.nsIn K mainGlobals "_law_whole" = some (some (.ref f25))) (l25 : K.lookup f25 = some ⟨oc25, od25, .func (PySem.W.fnOf "_law_whole" "_law_whole" (defArgs s__law_whole) (defBody s__law_whole) (defScope s__law_whole) .none kV25 dc25 pm25 an25 cd25 ct25), sl25⟩) (c25 : PySem.W.codeIn K cd25 "_law_whole" = true) (k25 : PySem.W.keepIn K (.ref f25) = true)
    {f26 : Addr} {od26 an26 : Option Addr} {sl26 : Array (Option Value)} {oc26 kV26 dc26 pm26 cd26 ct26 : Value} (a26 : PySem.W.nsIn K mainGlobals "_law_tops" = some (some (.ref f26))) (l26 : K.lookup f26 = some ⟨oc26, od26, .func (PySem.W.fnOf "_law_tops" "_law_tops" (defArgs s__law_tops) (defBody s__law_tops) (defScope s__law_tops) .none kV26 dc26 pm26 an26 cd26 ct26), sl26⟩) (c26 : PySem.W.codeIn K cd26 "_law_tops" = true) (k26 : PySem.W.keepIn K (.ref f26) = true)
    {f27 : Addr} {od27 an27 : Option Addr} {sl27 : Array (Option Value)} {oc27 kV27 dc27 pm27 cd27 ct27 : Value} (a27 : PySem.W.nsIn K mainGlobals "_law_unit" = some (some (.ref f27))) (l27 : K.lookup f27 = some ⟨oc27, od27, .func (PySem.W.fnOf "_law_unit" "_law_unit" (defArgs s__law_unit) (defBody s__law_unit) (defScope s__law_unit) .none kV27 dc27 pm27 an27 cd27 ct27), sl27⟩) (c27 : PySem.W.codeIn K cd27 "_law_unit" = true) (k27 : PySem.W.keepIn K (.ref f27) = true)
    {f28 : Addr} {od28 an28 : Option Addr} {sl28 : Array (Option Value)} {oc28 kV28 dc28 pm28 cd28 ct28 : Value} (a28 : PySem.W.nsIn K mainGlobals "_law_word" = some (some (.ref f28))) (l28 : K.lookup f28 = some ⟨oc28, od28, .func (PySem.W.fnOf "_law_word" "_law_word" (defArgs s__law_word) (defBody s__law_word) (defScope s__law_word) .none kV28 dc28 pm28 an28 cd28 ct28), sl28⟩) (c28 : PySem.W.codeIn K cd28 "_law_word" = true) (k28 : PySem.W.keepIn K (.ref f28) = true)
    {f29 : Addr} {od29 an29 : Option Addr} {sl29 : Array (Option Value)} {oc29 kV29 dc29 pm29 cd29 ct29 : Value} (a29 : PySem.W.nsIn K mainGlobals "_law_into" = some (some (.ref f29))) (l29 : K.lookup f29 = some ⟨oc29, od29, .func (PySem.W.fnOf "_law_into" "_law_into" (defArgs s__law_into) (defBody s__law_into) (defScope s__law_into) .none kV29 dc29 pm29 an29 cd29 ct29), sl29⟩) (c29 : PySem.W.codeIn K cd29 "_law_into" = true) (k29 : PySem.W.keepIn K (.ref f29) = true)
    {f30 : Addr} {od30 an30 : Option Addr} {sl30 : Array (Option Value)} {oc30 kV30 dc30 pm30 cd30 ct30 : Value} (a30 : PySem.W.nsIn K mainGlobals "_law_row" = some (some (.ref f30))) (l30 : K.lookup f30 = some ⟨oc30, od30, .func (PySem.W.fnOf "_law_row" "_law_row" (defArgs s__law_row) (defBody s__law_row) (defScope s__law_row) .none kV30 dc30 pm30 an30 cd30 ct30), sl30⟩) (c30 : PySem.W.codeIn K cd30 "_law_row" = true) (k30 : PySem.W.keepIn K (.ref f30) = true)
    {f31 : Addr} {od31 an31 : Option Addr} {sl31 : Array (Option Value)} {oc31 kV31 dc31 pm31 cd31 ct31 : Value} (a31 : PySem.W.nsIn K mainGlobals "_law_rows" = some (some (.ref f31))) (l31 : K.lookup f31 = some ⟨oc31, od31, .func (PySem.W.fnOf "_law_rows" "_law_rows" (defArgs s__law_rows) (defBody s__law_rows) (defScope s__law_rows) .none kV31 dc31 pm31 an31 cd31 ct31), sl31⟩) (c31 : PySem.W.codeIn K cd31 "_law_rows" = true) (k31 : PySem.W.keepIn K (.ref f31) = true)
    {f32 : Addr} {od32 an32 : Option Addr} {sl32 : Array (Option Value)} {oc32 kV32 dc32 pm32 cd32 ct32 : Value} (a32 : PySem.W.nsIn K mainGlobals "_law_program" = some (some (.ref f32))) (l32 : K.lookup f32 = some ⟨oc32, od32, .func (PySem.W.fnOf "_law_program" "_law_program" (defArgs s__law_program) (defBody s__law_program) (defScope s__law_program) .none kV32 dc32 pm32 an32 cd32 ct32), sl32⟩) (c32 : PySem.W.codeIn K cd32 "_law_program" = true) (k32 : PySem.W.keepIn K (.ref f32) = true)
    {f33 : Addr} {od33 an33 : Option Addr} {sl33 : Array (Option Value)} {oc33 kV33 dc33 pm33 cd33 ct33 : Value} (a33 : PySem.W.nsIn K mainGlobals "_law_code" = some (some (.ref f33))) (l33 : K.lookup f33 = some ⟨oc33, od33, .func (PySem.W.fnOf "_law_code" "_law_code" (defArgs s__law_code) (defBody s__law_code) (defScope s__law_code) .none kV33 dc33 pm33 an33 cd33 ct33), sl33⟩) (c33 : PySem.W.codeIn K cd33 "_law_code" = true) (k33 : PySem.W.keepIn K (.ref f33) = true)
    {f34 : Addr} {od34 an34 : Option Addr} {sl34 : Array (Option Value)} {oc34 kV34 dc34 pm34 cd34 ct34 : Value} (a34 : PySem.W.nsIn K mainGlobals "_law_asked" = some (some (.ref f34))) (l34 : K.lookup f34 = some ⟨oc34, od34, .func (PySem.W.fnOf "_law_asked" "_law_asked" (defArgs s__law_asked) (defBody s__law_asked) (defScope s__law_asked) .none kV34 dc34 pm34 an34 cd34 ct34), sl34⟩) (c34 : PySem.W.codeIn K cd34 "_law_asked" = true) (k34 : PySem.W.keepIn K (.ref f34) = true)
    {f35 : Addr} {od35 an35 : Option Addr} {sl35 : Array (Option Value)} {oc35 kV35 dc35 pm35 cd35 ct35 : Value} (a35 : PySem.W.nsIn K mainGlobals "_law_put_in" = some (some (.ref f35))) (l35 : K.lookup f35 = some ⟨oc35, od35, .func (PySem.W.fnOf "_law_put_in" "_law_put_in" (defArgs s__law_put_in) (defBody s__law_put_in) (defScope s__law_put_in) .none kV35 dc35 pm35 an35 cd35 ct35), sl35⟩) (c35 : PySem.W.codeIn K cd35 "_law_put_in" = true) (k35 : PySem.W.keepIn K (.ref f35) = true)
    {f36 : Addr} {od36 an36 : Option Addr} {sl36 : Array (Option Value)} {oc36 kV36 dc36 pm36 cd36 ct36 : Value} (a36 : PySem.W.nsIn K mainGlobals "_law_turned" = some (some (.ref f36))) (l36 : K.lookup f36 = some ⟨oc36, od36, .func (PySem.W.fnOf "_law_turned" "_law_turned" (defArgs s__law_turned) (defBody s__law_turned) (defScope s__law_turned) .none kV36 dc36 pm36 an36 cd36 ct36), sl36⟩) (c36 : PySem.W.codeIn K cd36 "_law_turned" = true) (k36 : PySem.W.keepIn K (.ref f36) = true)
    {f37 : Addr} {od37 an37 : Option Addr} {sl37 : Array (Option Value)} {oc37 kV37 dc37 pm37 cd37 ct37 : Value} (a37 : PySem.W.nsIn K mainGlobals "_law_from" = some (some (.ref f37))) (l37 : K.lookup f37 = some ⟨oc37, od37, .func (PySem.W.fnOf "_law_from" "_law_from" (defArgs s__law_from) (defBody s__law_from) (defScope s__law_from) .none kV37 dc37 pm37 an37 cd37 ct37), sl37⟩) (c37 : PySem.W.codeIn K cd37 "_law_from" = true) (k37 : PySem.W.keepIn K (.ref f37) = true)
    {f38 : Addr} {od38 an38 : Option Addr} {sl38 : Array (Option Value)} {oc38 kV38 dc38 pm38 cd38 ct38 : Value} (a38 : PySem.W.nsIn K mainGlobals "_law_due" = some (some (.ref f38))) (l38 : K.lookup f38 = some ⟨oc38, od38, .func (PySem.W.fnOf "_law_due" "_law_due" (defArgs s__law_due) (defBody s__law_due) (defScope s__law_due) .none kV38 dc38 pm38 an38 cd38 ct38), sl38⟩) (c38 : PySem.W.codeIn K cd38 "_law_due" = true) (k38 : PySem.W.keepIn K (.ref f38) = true)
    {f39 : Addr} {od39 an39 : Option Addr} {sl39 : Array (Option Value)} {oc39 kV39 dc39 pm39 cd39 ct39 : Value} (a39 : PySem.W.nsIn K mainGlobals "_law_kinds_good" = some (some (.ref f39))) (l39 : K.lookup f39 = some ⟨oc39, od39, .func (PySem.W.fnOf "_law_kinds_good" "_law_kinds_good" (defArgs s__law_kinds_good) (defBody s__law_kinds_good) (defScope s__law_kinds_good) .none kV39 dc39 pm39 an39 cd39 ct39), sl39⟩) (c39 : PySem.W.codeIn K cd39 "_law_kinds_good" = true) (k39 : PySem.W.keepIn K (.ref f39) = true)
    {f40 : Addr} {od40 an40 : Option Addr} {sl40 : Array (Option Value)} {oc40 kV40 dc40 pm40 cd40 ct40 : Value} (a40 : PySem.W.nsIn K mainGlobals "_law_words_right" = some (some (.ref f40))) (l40 : K.lookup f40 = some ⟨oc40, od40, .func (PySem.W.fnOf "_law_words_right" "_law_words_right" (defArgs s__law_words_right) (defBody s__law_words_right) (defScope s__law_words_right) .none kV40 dc40 pm40 an40 cd40 ct40), sl40⟩) (c40 : PySem.W.codeIn K cd40 "_law_words_right" = true) (k40 : PySem.W.keepIn K (.ref f40) = true)
    {f41 : Addr} {od41 an41 : Option Addr} {sl41 : Array (Option Value)} {oc41 kV41 dc41 pm41 cd41 ct41 : Value} (a41 : PySem.W.nsIn K mainGlobals "law" = some (some (.ref f41))) (l41 : K.lookup f41 = some ⟨oc41, od41, .func (PySem.W.fnOf "law" "law" (defArgs s_law) (defBody s_law) (defScope s_law) .none kV41 dc41 pm41 an41 cd41 ct41), sl41⟩) (c41 : PySem.W.codeIn K cd41 "law" = true) (k41 : PySem.W.keepIn K (.ref f41) = true)
    {f42 : Addr} {od42 an42 : Option Addr} {sl42 : Array (Option Value)} {oc42 kV42 dc42 pm42 cd42 ct42 : Value} (a42 : PySem.W.findIn K (.ref C) "__init__" = some (some (.ref f42))) (i42 : PySem.W.isFn K (.ref f42) = true) (l42 : K.lookup f42 = some ⟨oc42, od42, .func (PySem.W.fnOf "__init__" "Program.__init__" (defArgs s_Program___init__) (defBody s_Program___init__) (defScope s_Program___init__) .none kV42 dc42 pm42 an42 cd42 ct42), sl42⟩) (c42 : PySem.W.codeIn K cd42 "Program.__init__" = true) (k42 : PySem.W.keepIn K (.ref f42) = true)
    {f43 : Addr} {od43 an43 : Option Addr} {sl43 : Array (Option Value)} {oc43 kV43 dc43 pm43 cd43 ct43 : Value} (a43 : PySem.W.findIn K (.ref C) "row" = some (some (.ref f43))) (i43 : PySem.W.isFn K (.ref f43) = true) (l43 : K.lookup f43 = some ⟨oc43, od43, .func (PySem.W.fnOf "row" "Program.row" (defArgs s_Program_row) (defBody s_Program_row) (defScope s_Program_row) .none kV43 dc43 pm43 an43 cd43 ct43), sl43⟩) (c43 : PySem.W.codeIn K cd43 "Program.row" = true) (k43 : PySem.W.keepIn K (.ref f43) = true)
    {f44 : Addr} {od44 an44 : Option Addr} {sl44 : Array (Option Value)} {oc44 kV44 dc44 pm44 cd44 ct44 : Value} (a44 : PySem.W.findIn K (.ref C) "loops" = some (some (.ref f44))) (i44 : PySem.W.isFn K (.ref f44) = true) (l44 : K.lookup f44 = some ⟨oc44, od44, .func (PySem.W.fnOf "loops" "Program.loops" (defArgs s_Program_loops) (defBody s_Program_loops) (defScope s_Program_loops) .none kV44 dc44 pm44 an44 cd44 ct44), sl44⟩) (c44 : PySem.W.codeIn K cd44 "Program.loops" = true) (k44 : PySem.W.keepIn K (.ref f44) = true)
    {f45 : Addr} {od45 an45 : Option Addr} {sl45 : Array (Option Value)} {oc45 kV45 dc45 pm45 cd45 ct45 : Value} {pt : Addr} {rt : List Value} (pp : PySem.W.findIn K (.ref C) "tops" = some (some (.ref pt))) (ps : PySem.W.specialIn K (.ref pt) "__get__" = some (some (.builtin "property.__get__"))) (pk : PySem.W.takesIn K (.ref pt) = some true) (pr : PySem.W.recIn K pt "property" = some (.ref f45 :: rt)) (l45 : K.lookup f45 = some ⟨oc45, od45, .func (PySem.W.fnOf "tops" "Program.tops" (defArgs s_Program_tops) (defBody s_Program_tops) (defScope s_Program_tops) .none kV45 dc45 pm45 an45 cd45 ct45), sl45⟩) (c45 : PySem.W.codeIn K cd45 "Program.tops" = true) (k45 : PySem.W.keepIn K (.ref f45) = true)
    (pg : PySem.W.plainGet K C Str.empty = true) (hd : PySem.W.hasDictIn K C = true) (po : PySem.W.plainOver K C = true) (sa : PySem.W.findIn K (.ref C) "__setattr__" = some (some (.builtin "object.__setattr__"))) (mk : PySem.W.makesIn K C = true) (kc : PySem.W.keepIn K (.ref C) = true) (n1 : PySem.W.findIn K (.ref C) "_tops" = some none) (n2 : PySem.W.findIn K (.ref C) "rows" = some none)
    (xB : PySem.W.excIn K CB [.type "ValueError", .type "Exception", .type "BaseException", .type "object"] "ValueError.__new__" = true) (kB : PySem.W.keepIn K (.ref CB) = true) (bB : PySem.W.subIn K (.ref CB) (.type "BaseException") = some true) (tB : PySem.W.typeIn K (.ref CB) = some (.type "type"))
    {t_MOST_BOXES : Tok} (n_MOST_BOXES : PySem.W.nsIn K mainGlobals "MOST_BOXES" = some (some (.int 3 t_MOST_BOXES)))
    {t_HIGHEST_TOP : Tok} (n_HIGHEST_TOP : PySem.W.nsIn K mainGlobals "HIGHEST_TOP" = some (some (.int 9 t_HIGHEST_TOP)))
    {t_MOST_ROWS : Tok} (n_MOST_ROWS : PySem.W.nsIn K mainGlobals "MOST_ROWS" = some (some (.int 12 t_MOST_ROWS)))
    {t_MOST_WITHIN : Tok} (n_MOST_WITHIN : PySem.W.nsIn K mainGlobals "MOST_WITHIN" = some (some (.int 3 t_MOST_WITHIN)))
    {t_MOST_KEPT : Tok} (n_MOST_KEPT : PySem.W.nsIn K mainGlobals "MOST_KEPT" = some (some (.int 3 t_MOST_KEPT)))
    {t_HIGHEST_NUMBER : Tok} (n_HIGHEST_NUMBER : PySem.W.nsIn K mainGlobals "HIGHEST_NUMBER" = some (some (.int 9 t_HIGHEST_NUMBER)))
    {t_HIGHEST_LAST : Tok} (n_HIGHEST_LAST : PySem.W.nsIn K mainGlobals "HIGHEST_LAST" = some (some (.int 99 t_HIGHEST_LAST)))
    (z_len : PySem.W.nsIn K mainGlobals "len" = some none) (z_range : PySem.W.nsIn K mainGlobals "range" = some none) (z_zip : PySem.W.nsIn K mainGlobals "zip" = some none) (z_enumerate : PySem.W.nsIn K mainGlobals "enumerate" = some none) (z_sum : PySem.W.nsIn K mainGlobals "sum" = some none) (z_all : PySem.W.nsIn K mainGlobals "all" = some none) (z_tuple : PySem.W.nsIn K mainGlobals "tuple" = some none) (z_list : PySem.W.nsIn K mainGlobals "list" = some none) (z_isinstance : PySem.W.nsIn K mainGlobals "isinstance" = some none) (z_int : PySem.W.nsIn K mainGlobals "int" = some none) (z_bool : PySem.W.nsIn K mainGlobals "bool" = some none) (z_str : PySem.W.nsIn K mainGlobals "str" = some none) (z_type : PySem.W.nsIn K mainGlobals "type" = some none) :
    ∃ fd : FuncData, (∀ (s : Shared) (v : Value), BindsTo s fd ⟨[v], []⟩ [("_law_script", v)]) ∧ ∀ base : Heap, K.In base → base.Ns mainGlobals mg → FnOk l.prog w K mg base CX0 18 fa fd ["_law_script"] (spLaw K) := by
  have e := hfa.symm.trans (PySem.W.mg_of X G a41)
  cases e
  have F1 := fun_mk (st := s_rows_within) l1 c1 k1
  have b1 := F1.binds (ps := ["row"]) fun _ _ _ _ _ _ us hl => match us, hl with | [_], _ => rfl
  have m1 := PySem.W.mg_of X G a1
  have F2 := fun_mk (st := s__loops_among) l2 c2 k2
  have b2 := F2.binds (ps := ["rows", "ahead"]) fun _ _ _ _ _ _ us hl => match us, hl with | [_, _], _ => rfl
  have m2 := PySem.W.mg_of X G a2
  have F3 := fun_mk (st := s__check_tops) l3 c3 k3
  have b3 := F3.binds (ps := ["tops"]) fun _ _ _ _ _ _ us hl => match us, hl with | [_], _ => rfl
  have m3 := PySem.W.mg_of X G a3
  have F4 := fun_mk (st := s__check_rows) l4 c4 k4
  have b4 := F4.binds (ps := ["rows", "many", "depth"]) fun _ _ _ _ _ _ us hl => match us, hl with | [_, _, _], _ => rfl
  have m4 := PySem.W.mg_of X G a4
  have F5 := fun_mk (st := s__check_count) l5 c5 k5
  have b5 := F5.binds (ps := ["count"]) fun _ _ _ _ _ _ us hl => match us, hl with | [_], _ => rfl
  have m5 := PySem.W.mg_of X G a5
  have F6 := fun_mk (st := s__check_row) l6 c6 k6
  have b6 := F6.binds (ps := ["row", "many"]) fun _ _ _ _ _ _ us hl => match us, hl with | [_, _], _ => rfl
  have m6 := PySem.W.mg_of X G a6
  have F7 := fun_mk (st := s__are_kept_words) l7 c7 k7
  have b7 := F7.binds (ps := ["words", "many"]) fun _ _ _ _ _ _ us hl => match us, hl with | [_, _], _ => rfl
  have m7 := PySem.W.mg_of X G a7
  have F8 := fun_mk (st := s__is_sum) l8 c8 k8
  have b8 := F8.binds (ps := ["one", "many"]) fun _ _ _ _ _ _ us hl => match us, hl with | [_, _], _ => rfl
  have m8 := PySem.W.mg_of X G a8
  have F9 := fun_mk (st := s__is_from_to) l9 c9 k9
  have b9 := F9.binds (ps := ["number", "least", "most"]) fun _ _ _ _ _ _ us hl => match us, hl with | [_, _, _], _ => rfl
  have m9 := PySem.W.mg_of X G a9
  have F10 := fun_mk (st := s_value) l10 c10 k10
  have b10 := F10.binds (ps := ["one", "filling"]) fun _ _ _ _ _ _ us hl => match us, hl with | [_, _], _ => rfl
  have m10 := PySem.W.mg_of X G a10
  have F11 := fun_mk (st := s_opposite) l11 c11 k11
  have b11 := F11.binds (ps := ["one"]) fun _ _ _ _ _ _ us hl => match us, hl with | [_], _ => rfl
  have m11 := PySem.W.mg_of X G a11
  have F12 := fun_mk (st := s_put_in) l12 c12 k12
  have b12 := F12.binds (ps := ["one", "boxes"]) fun _ _ _ _ _ _ us hl => match us, hl with | [_, _], _ => rfl
  have m12 := PySem.W.mg_of X G a12
  have F13 := fun_mk (st := s_behind) l13 c13 k13
  have b13 := F13.binds (ps := ["program", "place"]) fun _ _ _ _ _ _ us hl => match us, hl with | [_, _], _ => rfl
  have m13 := PySem.W.mg_of X G a13
  have F14 := fun_mk (st := s_beginning) l14 c14 k14
  have b14 := F14.binds (ps := ["program"]) fun _ _ _ _ _ _ us hl => match us, hl with | [_], _ => rfl
  have m14 := PySem.W.mg_of X G a14
  have F15 := fun_mk (st := s_beyond) l15 c15 k15
  have b15 := F15.binds (ps := ["program", "place", "holds"]) fun _ _ _ _ _ _ us hl => match us, hl with | [_, _, _], _ => rfl
  have m15 := PySem.W.mg_of X G a15
  have F16 := fun_mk (st := s__rows_around) l16 c16 k16
  have b16 := F16.binds (ps := ["program", "place"]) fun _ _ _ _ _ _ us hl => match us, hl with | [_, _], _ => rfl
  have m16 := PySem.W.mg_of X G a16
  have F17 := fun_mk (st := s_asked) l17 c17 k17
  have b17 := F17.binds (ps := ["program", "place"]) fun _ _ _ _ _ _ us hl => match us, hl with | [_, _], _ => rfl
  have m17 := PySem.W.mg_of X G a17
  have F18 := fun_mk (st := s_tasks) l18 c18 k18
  have b18 := F18.binds (ps := ["program"]) fun _ _ _ _ _ _ us hl => match us, hl with | [_], _ => rfl
  have m18 := PySem.W.mg_of X G a18
  have F19 := fun_mk (st := s__ways) l19 c19 k19
  have b19 := F19.binds (ps := ["program", "start"]) fun _ _ _ _ _ _ us hl => match us, hl with | [_, _], _ => rfl
  have m19 := PySem.W.mg_of X G a19
  have F20 := fun_mk (st := s__beginnings) l20 c20 k20
  have b20 := F20.binds (ps := ["program", "start"]) fun _ _ _ _ _ _ us hl => match us, hl with | [_, _], _ => rfl
  have m20 := PySem.W.mg_of X G a20
  have F21 := fun_mk (st := s__further) l21 c21 k21
  have b21 := F21.binds (ps := ["program", "way"]) fun _ _ _ _ _ _ us hl => match us, hl with | [_, _], _ => rfl
  have m21 := PySem.W.mg_of X G a21
  have F22 := fun_mk (st := s__both) l22 c22 k22
  have b22 := F22.binds (ps := ["program", "way"]) fun _ _ _ _ _ _ us hl => match us, hl with | [_, _], _ => rfl
  have m22 := PySem.W.mg_of X G a22
  have F23 := fun_mk (st := s__of_one_box) l23 c23 k23
  have b23 := F23.binds (ps := ["number", "box", "many"]) fun _ _ _ _ _ _ us hl => match us, hl with | [_, _, _], _ => rfl
  have m23 := PySem.W.mg_of X G a23
  have F24 := fun_mk (st := s__law_at) l24 c24 k24
  have b24 := F24.binds (ps := ["_law_script", "_law_k"]) fun _ _ _ _ _ _ us hl => match us, hl with | [_, _], _ => rfl
  have m24 := PySem.W.mg_of X G a24
  have F25 := fun_mk (st := s__law_whole) l25 c25 k25
  have b25 := F25.binds (ps := ["_law_thing"]) fun _ _ _ _ _ _ us hl => match us, hl with | [_], _ => rfl
  have m25 := PySem.W.mg_of X G a25
  have F26 := fun_mk (st := s__law_tops) l26 c26 k26
  have b26 := F26.binds (ps := ["_law_script"]) fun _ _ _ _ _ _ us hl => match us, hl with | [_], _ => rfl
  have m26 := PySem.W.mg_of X G a26
  have F27 := fun_mk (st := s__law_unit) l27 c27 k27
  have b27 := F27.binds (ps := ["_law_many", "_law_box", "_law_number", "_law_more"]) fun _ _ _ _ _ _ us hl => match us, hl with | [_, _, _, _], _ => rfl
  have m27 := PySem.W.mg_of X G a27
  have F28 := fun_mk (st := s__law_word) l28 c28 k28
  have b28 := F28.binds (ps := ["_law_cell", "_law_many"]) fun _ _ _ _ _ _ us hl => match us, hl with | [_, _], _ => rfl
  have m28 := PySem.W.mg_of X G a28
  have F29 := fun_mk (st := s__law_into) l29 c29 k29
  have b29 := F29.binds (ps := ["_law_cell", "_law_many", "_law_box"]) fun _ _ _ _ _ _ us hl => match us, hl with | [_, _, _], _ => rfl
  have m29 := PySem.W.mg_of X G a29
  have F30 := fun_mk (st := s__law_row) l30 c30 k30
  have b30 := F30.binds (ps := ["_law_state", "_law_deep"]) fun _ _ _ _ _ _ us hl => match us, hl with | [_, _], _ => rfl
  have m30 := PySem.W.mg_of X G a30
  have F31 := fun_mk (st := s__law_rows) l31 c31 k31
  have b31 := F31.binds (ps := ["_law_state", "_law_deep", "_law_most"]) fun _ _ _ _ _ _ us hl => match us, hl with | [_, _, _], _ => rfl
  have m31 := PySem.W.mg_of X G a31
  have F32 := fun_mk (st := s__law_program) l32 c32 k32
  have b32 := F32.binds (ps := ["_law_script", "_law_most"]) fun _ _ _ _ _ _ us hl => match us, hl with | [_, _], _ => rfl
  have m32 := PySem.W.mg_of X G a32
  have F33 := fun_mk (st := s__law_code) l33 c33 k33
  have b33 := F33.binds (ps := ["_law_rows_here", "_law_ahead", "_law_code_here"]) fun _ _ _ _ _ _ us hl => match us, hl with | [_, _, _], _ => rfl
  have m33 := PySem.W.mg_of X G a33
  have F34 := fun_mk (st := s__law_asked) l34 c34 k34
  have b34 := F34.binds (ps := ["_law_row_here", "_law_tops_here"]) fun _ _ _ _ _ _ us hl => match us, hl with | [_, _], _ => rfl
  have m34 := PySem.W.mg_of X G a34
  have F35 := fun_mk (st := s__law_put_in) l35 c35 k35
  have b35 := F35.binds (ps := ["_law_one", "_law_boxes"]) fun _ _ _ _ _ _ us hl => match us, hl with | [_, _], _ => rfl
  have m35 := PySem.W.mg_of X G a35
  have F36 := fun_mk (st := s__law_turned) l36 c36 k36
  have b36 := F36.binds (ps := ["_law_one"]) fun _ _ _ _ _ _ us hl => match us, hl with | [_], _ => rfl
  have m36 := PySem.W.mg_of X G a36
  have F37 := fun_mk (st := s__law_from) l37 c37 k37
  have b37 := F37.binds (ps := ["_law_code_here", "_law_at_here", "_law_way", "_law_tops_here"]) fun _ _ _ _ _ _ us hl => match us, hl with | [_, _, _, _], _ => rfl
  have m37 := PySem.W.mg_of X G a37
  have F38 := fun_mk (st := s__law_due) l38 c38 k38
  have b38 := F38.binds (ps := ["_law_code_here", "_law_tops_here"]) fun _ _ _ _ _ _ us hl => match us, hl with | [_, _], _ => rfl
  have m38 := PySem.W.mg_of X G a38
  have F39 := fun_mk (st := s__law_kinds_good) l39 c39 k39
  have b39 := F39.binds (ps := ["_law_task"]) fun _ _ _ _ _ _ us hl => match us, hl with | [_], _ => rfl
  have m39 := PySem.W.mg_of X G a39
  have F40 := fun_mk (st := s__law_words_right) l40 c40 k40
  have b40 := F40.binds (ps := ["_law_program_here", "_law_code_here", "_law_tops_here", "_law_kept"]) fun _ _ _ _ _ _ us hl => match us, hl with | [_, _, _, _], _ => rfl
  have m40 := PySem.W.mg_of X G a40
  have F41 := fun_mk (st := s_law) l41 c41 k41
  have m41 := PySem.W.mg_of X G a41
  have F42 := fun_mk (st := s_Program___init__) l42 c42 k42
  have b42 := F42.binds (ps := ["self", "tops", "rows"]) fun _ _ _ _ _ _ us hl => match us, hl with | [_, _, _], _ => rfl
  have F43 := fun_mk (st := s_Program_row) l43 c43 k43
  have b43 := F43.binds (ps := ["self", "place"]) fun _ _ _ _ _ _ us hl => match us, hl with | [_, _], _ => rfl
  have F44 := fun_mk (st := s_Program_loops) l44 c44 k44
  have b44 := F44.binds (ps := ["self"]) fun _ _ _ _ _ _ us hl => match us, hl with | [_], _ => rfl
  have F45 := fun_mk (st := s_Program_tops) l45 c45 k45
  have b45 := F45.binds (ps := ["self"]) fun _ _ _ _ _ _ us hl => match us, hl with | [_], _ => rfl
  have B : Bl mg := ⟨PySem.W.mg_none_of X G z_len, PySem.W.mg_none_of X G z_range, PySem.W.mg_none_of X G z_zip, PySem.W.mg_none_of X G z_enumerate, PySem.W.mg_none_of X G z_sum, PySem.W.mg_none_of X G z_all, PySem.W.mg_none_of X G z_tuple, PySem.W.mg_none_of X G z_list, PySem.W.mg_none_of X G z_isinstance, PySem.W.mg_none_of X G z_int, PySem.W.mg_none_of X G z_bool, PySem.W.mg_none_of X G z_str, PySem.W.mg_none_of X G z_type⟩
  have T : Cs mg := ⟨⟨_, PySem.W.mg_of X G n_MOST_BOXES, ⟨_, rfl⟩⟩, ⟨_, PySem.W.mg_of X G n_HIGHEST_TOP, ⟨_, rfl⟩⟩, ⟨_, PySem.W.mg_of X G n_MOST_ROWS, ⟨_, rfl⟩⟩, ⟨_, PySem.W.mg_of X G n_MOST_WITHIN, ⟨_, rfl⟩⟩, ⟨_, PySem.W.mg_of X G n_MOST_KEPT, ⟨_, rfl⟩⟩, ⟨_, PySem.W.mg_of X G n_HIGHEST_NUMBER, ⟨_, rfl⟩⟩, ⟨_, PySem.W.mg_of X G n_HIGHEST_LAST, ⟨_, rfl⟩⟩⟩
  have mC := PySem.W.mg_of X G aC
  have XB : ExF K mg "BadProgram" CB := ⟨xB, PySem.W.mg_of X G aB, kB, bB, tB⟩
  have cl : Cls K C := ⟨pg, hd, po, sa⟩
  have cp : ClsP K C := ⟨cl, n1, n2⟩
  refine ⟨PySem.W.fnOf "law" "law" (defArgs s_law) (defBody s_law) (defScope s_law) .none kV41 dc41 pm41 an41 cd41 ct41, fun s v => .of_eq rfl, fun base _ _ => ?_⟩
  have g__is_from_to := ok__is_from_to (P := l.prog) (w := w) (mg := mg) (base := base) (k := 0) F9 B
  have g__is_sum := ok__is_sum (P := l.prog) (w := w) (mg := mg) (base := base) (k := 1) F8 B T (calMk g__is_from_to m9 k9 b9 (by decide) : C8.Cal l.prog w K mg base 1 _ _ [])
  have g__are_kept_words := ok__are_kept_words (P := l.prog) (w := w) (mg := mg) (base := base) (k := 2) F7 B T (calMk g__is_sum m8 k8 b8 (by decide) : C8.Cal l.prog w K mg base 2 _ _ [])
  have g_rows_within := ok_rows_within (P := l.prog) (w := w) (mg := mg) (base := base) (k := 0) F1 
  have g__check_count := ok__check_count (P := l.prog) (w := w) (mg := mg) (base := base) (k := 0) F5 B T XB
  have g__check_row := ok__check_row (P := l.prog) (w := w) (mg := mg) (base := base) (k := 3) F6 B T XB (calMk g__is_from_to m9 k9 b9 (by decide) : C8.Cal l.prog w K mg base 3 _ _ []) (calMk g__is_sum m8 k8 b8 (by decide) : C8.Cal l.prog w K mg base 3 _ _ []) (calMk g__are_kept_words m7 k7 b7 (by decide) : C8.Cal l.prog w K mg base 3 _ _ [])
  have g__check_rows0 : FnOk l.prog w K mg base (L2.CX l.prog w) 4 f4 _ ["rows", "many", "depth"] (spRows K CB 0) := vac (fd := PySem.W.fnOf "_check_rows" "_check_rows" (defArgs s__check_rows) (defBody s__check_rows) (defScope s__check_rows) .none kV4 dc4 pm4 an4 cd4 ct4) (by rintro vs H Q E ⟨v, d, many, depth, _, _, _, h1, h2, _⟩; omega)
  have g__check_rows1 := ok__check_rows (P := l.prog) (w := w) (mg := mg) (base := base) (k := 4) F4 B T XB (calXMk g__check_count m5 k5 b5 (by decide) : CalX l.prog w K mg base 4 _ _) (calXMk g__check_row m6 k6 b6 (by decide) : CalX l.prog w K mg base 4 _ _) (calMk g_rows_within m1 k1 b1 (by decide) : C8.Cal l.prog w K mg base 4 _ _ []) (calXMk g__check_rows0 m4 k4 b4 (by decide) : CalX l.prog w K mg base 4 _ _)
  have g__check_rows2 := ok__check_rows (P := l.prog) (w := w) (mg := mg) (base := base) (k := 5) F4 B T XB (calXMk g__check_count m5 k5 b5 (by decide) : CalX l.prog w K mg base 5 _ _) (calXMk g__check_row m6 k6 b6 (by decide) : CalX l.prog w K mg base 5 _ _) (calMk g_rows_within m1 k1 b1 (by decide) : C8.Cal l.prog w K mg base 5 _ _ []) (calXMk g__check_rows1 m4 k4 b4 (by decide) : CalX l.prog w K mg base 5 _ _)
  have g__check_rows3 := ok__check_rows (P := l.prog) (w := w) (mg := mg) (base := base) (k := 6) F4 B T XB (calXMk g__check_count m5 k5 b5 (by decide) : CalX l.prog w K mg base 6 _ _) (calXMk g__check_row m6 k6 b6 (by decide) : CalX l.prog w K mg base 6 _ _) (calMk g_rows_within m1 k1 b1 (by decide) : C8.Cal l.prog w K mg base 6 _ _ []) (calXMk g__check_rows2 m4 k4 b4 (by decide) : CalX l.prog w K mg base 6 _ _)
  have g__check_rows4 := ok__check_rows (P := l.prog) (w := w) (mg := mg) (base := base) (k := 7) F4 B T XB (calXMk g__check_count m5 k5 b5 (by decide) : CalX l.prog w K mg base 7 _ _) (calXMk g__check_row m6 k6 b6 (by decide) : CalX l.prog w K mg base 7 _ _) (calMk g_rows_within m1 k1 b1 (by decide) : C8.Cal l.prog w K mg base 7 _ _ []) (calXMk g__check_rows3 m4 k4 b4 (by decide) : CalX l.prog w K mg base 7 _ _)
  have g__check_rows5 := ok__check_rows (P := l.prog) (w := w) (mg := mg) (base := base) (k := 8) F4 B T XB (calXMk g__check_count m5 k5 b5 (by decide) : CalX l.prog w K mg base 8 _ _) (calXMk g__check_row m6 k6 b6 (by decide) : CalX l.prog w K mg base 8 _ _) (calMk g_rows_within m1 k1 b1 (by decide) : C8.Cal l.prog w K mg base 8 _ _ []) (calXMk g__check_rows4 m4 k4 b4 (by decide) : CalX l.prog w K mg base 8 _ _)
  have g__check_tops := ok__check_tops (P := l.prog) (w := w) (mg := mg) (base := base) (k := 1) F3 B T XB (calMk g__is_from_to m9 k9 b9 (by decide) : C8.Cal l.prog w K mg base 1 _ _ [])
  have g_Program___init__ := ok_init (P := l.prog) (w := w) (mg := mg) (base := base) (k := 9) F42 B cp (calXMk g__check_tops m3 k3 b3 (by decide) : CalX l.prog w K mg base 9 _ _) (calXMk g__check_rows5 m4 k4 b4 (by decide) : CalX l.prog w K mg base 9 _ _)
  have qC : ∀ k, 10 ≤ k → CalC l.prog w K mg base k C "Program" (spInit K C CB) := fun k hk => ⟨f42, _, _, ⟨mk, a42, i42, kc⟩, g_Program___init__.mono hk, b42, mC⟩
  have g_Program_tops := ok_tops (P := l.prog) (w := w) (mg := mg) (base := base) (k := 0) F45 B cp
  have qT : ∀ k, 1 ≤ k → CalP l.prog w K mg base k C "tops" (spTopsP K C) := fun k hk => ⟨pt, f45, _, _, ⟨pp, ps, pk, rt, pr⟩, g_Program_tops.mono hk, b45⟩
  have g__loops_among0 : FnOk l.prog w K mg base CX0 1 f2 _ ["rows", "ahead"] (spLo K 0) := vac (fd := PySem.W.fnOf "_loops_among" "_loops_among" (defArgs s__loops_among) (defBody s__loops_among) (defScope s__loops_among) .none kV2 dc2 pm2 an2 cd2 ct2) (by rintro vs H Q E ⟨many, a, b, xs, rows, ahead, _, _, _, _, _, h1, _⟩; omega)
  have g__loops_among1 := ok__loops_among (P := l.prog) (w := w) (mg := mg) (base := base) (k := 1) F2 B (calMk g_rows_within m1 k1 b1 (by decide) : C8.Cal l.prog w K mg base 1 _ _ []) (calMk g__loops_among0 m2 k2 b2 (by decide) : C8.Cal l.prog w K mg base 1 _ _ [])
  have g__loops_among2 := ok__loops_among (P := l.prog) (w := w) (mg := mg) (base := base) (k := 2) F2 B (calMk g_rows_within m1 k1 b1 (by decide) : C8.Cal l.prog w K mg base 2 _ _ []) (calMk g__loops_among1 m2 k2 b2 (by decide) : C8.Cal l.prog w K mg base 2 _ _ [])
  have g__loops_among3 := ok__loops_among (P := l.prog) (w := w) (mg := mg) (base := base) (k := 3) F2 B (calMk g_rows_within m1 k1 b1 (by decide) : C8.Cal l.prog w K mg base 3 _ _ []) (calMk g__loops_among2 m2 k2 b2 (by decide) : C8.Cal l.prog w K mg base 3 _ _ [])
  have g__loops_among4 := ok__loops_among (P := l.prog) (w := w) (mg := mg) (base := base) (k := 4) F2 B (calMk g_rows_within m1 k1 b1 (by decide) : C8.Cal l.prog w K mg base 4 _ _ []) (calMk g__loops_among3 m2 k2 b2 (by decide) : C8.Cal l.prog w K mg base 4 _ _ [])
  have g_Program_loops := ok_loops (P := l.prog) (w := w) (mg := mg) (base := base) (k := 5) F44 cp (calMk g__loops_among4 m2 k2 b2 (by decide) : C8.Cal l.prog w K mg base 5 _ _ [])
  have qL : ∀ k, 6 ≤ k → CalM l.prog w K mg base k C "loops" (spLoops K C) := fun k hk => ⟨f44, _, _, ⟨a44, i44, k44⟩, g_Program_loops.mono hk, b44⟩
  have g_Program_row := ok_row (P := l.prog) (w := w) (mg := mg) (base := base) (k := 1) F43 B cp (calMk g_rows_within m1 k1 b1 (by decide) : C8.Cal l.prog w K mg base 1 _ _ [])
  have qR : ∀ k, 2 ≤ k → CalM l.prog w K mg base k C "row" (spRowAt K C) := fun k hk => ⟨f43, _, _, ⟨a43, i43, k43⟩, g_Program_row.mono hk, b43⟩
  have g__law_at := ok__law_at (P := l.prog) (w := w) (mg := mg) (base := base) (k := 0) F24 B
  have g__law_tops := ok__law_tops (P := l.prog) (w := w) (mg := mg) (base := base) (k := 1) F26 B (calMk g__law_at m24 k24 b24 (by decide) : C8.Cal l.prog w K mg base 1 _ _ [])
  have g__law_unit := ok__law_unit (P := l.prog) (w := w) (mg := mg) (base := base) (k := 0) F27 B
  have g__law_word := ok__law_word (P := l.prog) (w := w) (mg := mg) (base := base) (k := 1) F28 B (calMk g__law_unit m27 k27 b27 (by decide) : C8.Cal l.prog w K mg base 1 _ _ [])
  have g__law_into := ok__law_into (P := l.prog) (w := w) (mg := mg) (base := base) (k := 2) F29 B (calMk g__law_unit m27 k27 b27 (by decide) : C8.Cal l.prog w K mg base 2 _ _ []) (calMk g__law_word m28 k28 b28 (by decide) : C8.Cal l.prog w K mg base 2 _ _ [])
  have g__law_rows0 : FnOk l.prog w K mg base CX0 3 f31 _ ["_law_state", "_law_deep", "_law_most"] (spGRows K 0) := vac (fd := PySem.W.fnOf "_law_rows" "_law_rows" (defArgs s__law_rows) (defBody s__law_rows) (defScope s__law_rows) .none kV31 dc31 pm31 an31 cd31 ct31) (by rintro vs H Q E ⟨ds, sc, tp, script, tops, p, l, di, most, _, _, h1, _⟩; omega)
  have g__law_row0 := ok__law_row (P := l.prog) (w := w) (mg := mg) (base := base) (k := 3) F30 B (calMk g__law_at m24 k24 b24 (by decide) : C8.Cal l.prog w K mg base 3 _ _ []) (calMk g__law_into m29 k29 b29 (by decide) : C8.Cal l.prog w K mg base 3 _ _ []) (calMk g__law_word m28 k28 b28 (by decide) : C8.Cal l.prog w K mg base 3 _ _ []) (calMk g__law_unit m27 k27 b27 (by decide) : C8.Cal l.prog w K mg base 3 _ _ []) (calMk g__law_rows0 m31 k31 b31 (by decide) : C8.Cal l.prog w K mg base 3 _ _ [])
  have g__law_rows1 := ok__law_rows (P := l.prog) (w := w) (mg := mg) (base := base) (k := 4) F31 B (calMk g__law_row0 m30 k30 b30 (by decide) : C8.Cal l.prog w K mg base 4 _ _ [])
  have g__law_row1 := ok__law_row (P := l.prog) (w := w) (mg := mg) (base := base) (k := 5) F30 B (calMk g__law_at m24 k24 b24 (by decide) : C8.Cal l.prog w K mg base 5 _ _ []) (calMk g__law_into m29 k29 b29 (by decide) : C8.Cal l.prog w K mg base 5 _ _ []) (calMk g__law_word m28 k28 b28 (by decide) : C8.Cal l.prog w K mg base 5 _ _ []) (calMk g__law_unit m27 k27 b27 (by decide) : C8.Cal l.prog w K mg base 5 _ _ []) (calMk g__law_rows1 m31 k31 b31 (by decide) : C8.Cal l.prog w K mg base 5 _ _ [])
  have g__law_rows2 := ok__law_rows (P := l.prog) (w := w) (mg := mg) (base := base) (k := 6) F31 B (calMk g__law_row1 m30 k30 b30 (by decide) : C8.Cal l.prog w K mg base 6 _ _ [])
  have g__law_row2 := ok__law_row (P := l.prog) (w := w) (mg := mg) (base := base) (k := 7) F30 B (calMk g__law_at m24 k24 b24 (by decide) : C8.Cal l.prog w K mg base 7 _ _ []) (calMk g__law_into m29 k29 b29 (by decide) : C8.Cal l.prog w K mg base 7 _ _ []) (calMk g__law_word m28 k28 b28 (by decide) : C8.Cal l.prog w K mg base 7 _ _ []) (calMk g__law_unit m27 k27 b27 (by decide) : C8.Cal l.prog w K mg base 7 _ _ []) (calMk g__law_rows2 m31 k31 b31 (by decide) : C8.Cal l.prog w K mg base 7 _ _ [])
  have g__law_rows3 := ok__law_rows (P := l.prog) (w := w) (mg := mg) (base := base) (k := 8) F31 B (calMk g__law_row2 m30 k30 b30 (by decide) : C8.Cal l.prog w K mg base 8 _ _ [])
  have g__law_row3 := ok__law_row (P := l.prog) (w := w) (mg := mg) (base := base) (k := 9) F30 B (calMk g__law_at m24 k24 b24 (by decide) : C8.Cal l.prog w K mg base 9 _ _ []) (calMk g__law_into m29 k29 b29 (by decide) : C8.Cal l.prog w K mg base 9 _ _ []) (calMk g__law_word m28 k28 b28 (by decide) : C8.Cal l.prog w K mg base 9 _ _ []) (calMk g__law_unit m27 k27 b27 (by decide) : C8.Cal l.prog w K mg base 9 _ _ []) (calMk g__law_rows3 m31 k31 b31 (by decide) : C8.Cal l.prog w K mg base 9 _ _ [])
  have g__law_rows4 := ok__law_rows (P := l.prog) (w := w) (mg := mg) (base := base) (k := 10) F31 B (calMk g__law_row3 m30 k30 b30 (by decide) : C8.Cal l.prog w K mg base 10 _ _ [])
  have g__law_program := ok__law_program (P := l.prog) (w := w) (mg := mg) (base := base) (k := 11) F32 B (calMk g__law_at m24 k24 b24 (by decide) : C8.Cal l.prog w K mg base 11 _ _ []) (calMk g__law_tops m26 k26 b26 (by decide) : C8.Cal l.prog w K mg base 11 _ _ []) (calMk g__law_rows4 m31 k31 b31 (by decide) : C8.Cal l.prog w K mg base 11 _ _ [])
  have g__rows_around := ok__rows_around (P := l.prog) (w := w) (mg := mg) (base := base) (k := 2) F16 B cp cl (qR 2 (by decide)) (calMk g_rows_within m1 k1 b1 (by decide) : C8.Cal l.prog w K mg base 2 _ _ [])
  have g_behind := ok_behind (P := l.prog) (w := w) (mg := mg) (base := base) (k := 3) F13 B cl (qR 3 (by decide)) (calMk g__rows_around m16 k16 b16 (by decide) : C8.Cal l.prog w K mg base 3 _ _ [])
  have g_beginning := ok_beginning (P := l.prog) (w := w) (mg := mg) (base := base) (k := 0) F14 B cp
  have g_beyond := ok_beyond (P := l.prog) (w := w) (mg := mg) (base := base) (k := 4) F15 B cl (qR 4 (by decide)) (calMk g_rows_within m1 k1 b1 (by decide) : C8.Cal l.prog w K mg base 4 _ _ []) (calMk g_behind m13 k13 b13 (by decide) : C8.Cal l.prog w K mg base 4 _ _ [])
  have g_value := ok_value (P := l.prog) (w := w) (mg := mg) (base := base) (k := 0) F10 B
  have g_opposite := ok_opposite (P := l.prog) (w := w) (mg := mg) (base := base) (k := 0) F11 B
  have g_put_in := ok_put_in (P := l.prog) (w := w) (mg := mg) (base := base) (k := 1) F12 B (calMk g_value m10 k10 b10 (by decide) : C8.Cal l.prog w K mg base 1 _ _ [])
  have g__of_one_box := ok__of_one_box (P := l.prog) (w := w) (mg := mg) (base := base) (k := 0) F23 B
  have g_asked := ok_asked (P := l.prog) (w := w) (mg := mg) (base := base) (k := 1) F17 B cl (qR 2 (by decide)) (qT 1 (by decide)) (calMk g__of_one_box m23 k23 b23 (by decide) : C8.Cal l.prog w K mg base 2 _ _ [])
  have g__both := ok__both (P := l.prog) (w := w) (mg := mg) (base := base) (k := 5) F22 B cl (qR 5 (by decide)) (calMk g_put_in m12 k12 b12 (by decide) : C8.Cal l.prog w K mg base 5 _ _ []) (calMk g_opposite m11 k11 b11 (by decide) : C8.Cal l.prog w K mg base 5 _ _ []) (calMk g_beyond m15 k15 b15 (by decide) : C8.Cal l.prog w K mg base 5 _ _ [])
  have g__further := ok__further (P := l.prog) (w := w) (mg := mg) (base := base) (k := 6) F21 B cl (qR 6 (by decide)) (calMk g_put_in m12 k12 b12 (by decide) : C8.Cal l.prog w K mg base 6 _ _ []) (calMk g__both m22 k22 b22 (by decide) : C8.Cal l.prog w K mg base 6 _ _ []) (calMk g_behind m13 k13 b13 (by decide) : C8.Cal l.prog w K mg base 6 _ _ [])
  have g__beginnings := ok__beginnings (P := l.prog) (w := w) (mg := mg) (base := base) (k := 5) F20 B cl (qR 6 (by decide)) (qT 5 (by decide)) (calMk g__of_one_box m23 k23 b23 (by decide) : C8.Cal l.prog w K mg base 6 _ _ []) (calMk g_beginning m14 k14 b14 (by decide) : C8.Cal l.prog w K mg base 6 _ _ []) (calMk g__both m22 k22 b22 (by decide) : C8.Cal l.prog w K mg base 6 _ _ [])
  have g__ways := ok__ways (P := l.prog) (w := w) (mg := mg) (base := base) (k := 7) F19 B cl (qR 7 (by decide)) (calMk g__beginnings m20 k20 b20 (by decide) : C8.Cal l.prog w K mg base 7 _ _ []) (calMk g__further m21 k21 b21 (by decide) : C8.Cal l.prog w K mg base 7 _ _ [])
  have g_tasks := ok_tasks (P := l.prog) (w := w) (mg := mg) (base := base) (k := 7) F18 B cl (qL 8 (by decide)) (calMk g__ways m19 k19 b19 (by decide) : C8.Cal l.prog w K mg base 8 _ _ []) (calMk g_asked m17 k17 b17 (by decide) : C8.Cal l.prog w K mg base 8 _ _ []) (calMk g_put_in m12 k12 b12 (by decide) : C8.Cal l.prog w K mg base 8 _ _ []) (calMk g_opposite m11 k11 b11 (by decide) : C8.Cal l.prog w K mg base 8 _ _ [])
  have g__law_code0 : FnOk l.prog w K mg base CX0 0 f33 _ ["_law_rows_here", "_law_ahead", "_law_code_here"] (spCode K 0) := vac (fd := PySem.W.fnOf "_law_code" "_law_code" (defArgs s__law_code) (defBody s__law_code) (defScope s__law_code) .none kV33 dc33 pm33 an33 cd33 ct33) (by rintro vs H Q E ⟨a, b, L, xs, us, R, ah, fr, pre, _, _, _, _, _, _, h1, _⟩; omega)
  have g__law_code1 := ok__law_code (P := l.prog) (w := w) (mg := mg) (base := base) (k := 0) F33 B (calMk g__law_code0 m33 k33 b33 (by decide) : C8.Cal l.prog w K mg base 0 _ _ [])
  have g__law_code2 := ok__law_code (P := l.prog) (w := w) (mg := mg) (base := base) (k := 1) F33 B (calMk g__law_code1 m33 k33 b33 (by decide) : C8.Cal l.prog w K mg base 1 _ _ [])
  have g__law_code3 := ok__law_code (P := l.prog) (w := w) (mg := mg) (base := base) (k := 2) F33 B (calMk g__law_code2 m33 k33 b33 (by decide) : C8.Cal l.prog w K mg base 2 _ _ [])
  have g__law_code4 := ok__law_code (P := l.prog) (w := w) (mg := mg) (base := base) (k := 3) F33 B (calMk g__law_code3 m33 k33 b33 (by decide) : C8.Cal l.prog w K mg base 3 _ _ [])
  have g__law_asked := ok__law_asked (P := l.prog) (w := w) (mg := mg) (base := base) (k := 1) F34 B (calMk g__law_unit m27 k27 b27 (by decide) : C8.Cal l.prog w K mg base 1 _ _ [])
  have g__law_put_in := ok__law_put_in (P := l.prog) (w := w) (mg := mg) (base := base) (k := 0) F35 B
  have g__law_turned := ok__law_turned (P := l.prog) (w := w) (mg := mg) (base := base) (k := 0) F36 B
  have g__law_from0 : FnOk l.prog w K mg base CX0 2 f37 _ ["_law_code_here", "_law_at_here", "_law_way", "_law_tops_here"] (spFrom K 0) := vac (fd := PySem.W.fnOf "_law_from" "_law_from" (defArgs s__law_from) (defBody s__law_from) (defScope s__law_from) .none kV37 dc37 pm37 an37 cd37 ct37) (by rintro vs H Q E ⟨C, tl, j, wv, cs, tops, R, ah, i, rs, fr, beg, st, _, _, _, _, _, _, _, _, _, _, _, _, h1, _⟩; omega)
  have g__law_from1 := ok__law_from (P := l.prog) (w := w) (mg := mg) (base := base) (k := 2) F37 B (calMk g__law_asked m34 k34 b34 (by decide) : C8.Cal l.prog w K mg base 2 _ _ []) (calMk g__law_put_in m35 k35 b35 (by decide) : C8.Cal l.prog w K mg base 2 _ _ []) (calMk g__law_turned m36 k36 b36 (by decide) : C8.Cal l.prog w K mg base 2 _ _ []) (calMk g__law_from0 m37 k37 b37 (by decide) : C8.Cal l.prog w K mg base 2 _ _ [])
  have g__law_from2 := ok__law_from (P := l.prog) (w := w) (mg := mg) (base := base) (k := 3) F37 B (calMk g__law_asked m34 k34 b34 (by decide) : C8.Cal l.prog w K mg base 3 _ _ []) (calMk g__law_put_in m35 k35 b35 (by decide) : C8.Cal l.prog w K mg base 3 _ _ []) (calMk g__law_turned m36 k36 b36 (by decide) : C8.Cal l.prog w K mg base 3 _ _ []) (calMk g__law_from1 m37 k37 b37 (by decide) : C8.Cal l.prog w K mg base 3 _ _ [])
  have g__law_from3 := ok__law_from (P := l.prog) (w := w) (mg := mg) (base := base) (k := 4) F37 B (calMk g__law_asked m34 k34 b34 (by decide) : C8.Cal l.prog w K mg base 4 _ _ []) (calMk g__law_put_in m35 k35 b35 (by decide) : C8.Cal l.prog w K mg base 4 _ _ []) (calMk g__law_turned m36 k36 b36 (by decide) : C8.Cal l.prog w K mg base 4 _ _ []) (calMk g__law_from2 m37 k37 b37 (by decide) : C8.Cal l.prog w K mg base 4 _ _ [])
  have g__law_from4 := ok__law_from (P := l.prog) (w := w) (mg := mg) (base := base) (k := 5) F37 B (calMk g__law_asked m34 k34 b34 (by decide) : C8.Cal l.prog w K mg base 5 _ _ []) (calMk g__law_put_in m35 k35 b35 (by decide) : C8.Cal l.prog w K mg base 5 _ _ []) (calMk g__law_turned m36 k36 b36 (by decide) : C8.Cal l.prog w K mg base 5 _ _ []) (calMk g__law_from3 m37 k37 b37 (by decide) : C8.Cal l.prog w K mg base 5 _ _ [])
  have g__law_from5 := ok__law_from (P := l.prog) (w := w) (mg := mg) (base := base) (k := 6) F37 B (calMk g__law_asked m34 k34 b34 (by decide) : C8.Cal l.prog w K mg base 6 _ _ []) (calMk g__law_put_in m35 k35 b35 (by decide) : C8.Cal l.prog w K mg base 6 _ _ []) (calMk g__law_turned m36 k36 b36 (by decide) : C8.Cal l.prog w K mg base 6 _ _ []) (calMk g__law_from4 m37 k37 b37 (by decide) : C8.Cal l.prog w K mg base 6 _ _ [])
  have g__law_from6 := ok__law_from (P := l.prog) (w := w) (mg := mg) (base := base) (k := 7) F37 B (calMk g__law_asked m34 k34 b34 (by decide) : C8.Cal l.prog w K mg base 7 _ _ []) (calMk g__law_put_in m35 k35 b35 (by decide) : C8.Cal l.prog w K mg base 7 _ _ []) (calMk g__law_turned m36 k36 b36 (by decide) : C8.Cal l.prog w K mg base 7 _ _ []) (calMk g__law_from5 m37 k37 b37 (by decide) : C8.Cal l.prog w K mg base 7 _ _ [])
  have g__law_from7 := ok__law_from (P := l.prog) (w := w) (mg := mg) (base := base) (k := 8) F37 B (calMk g__law_asked m34 k34 b34 (by decide) : C8.Cal l.prog w K mg base 8 _ _ []) (calMk g__law_put_in m35 k35 b35 (by decide) : C8.Cal l.prog w K mg base 8 _ _ []) (calMk g__law_turned m36 k36 b36 (by decide) : C8.Cal l.prog w K mg base 8 _ _ []) (calMk g__law_from6 m37 k37 b37 (by decide) : C8.Cal l.prog w K mg base 8 _ _ [])
  have g__law_from8 := ok__law_from (P := l.prog) (w := w) (mg := mg) (base := base) (k := 9) F37 B (calMk g__law_asked m34 k34 b34 (by decide) : C8.Cal l.prog w K mg base 9 _ _ []) (calMk g__law_put_in m35 k35 b35 (by decide) : C8.Cal l.prog w K mg base 9 _ _ []) (calMk g__law_turned m36 k36 b36 (by decide) : C8.Cal l.prog w K mg base 9 _ _ []) (calMk g__law_from7 m37 k37 b37 (by decide) : C8.Cal l.prog w K mg base 9 _ _ [])
  have g__law_from9 := ok__law_from (P := l.prog) (w := w) (mg := mg) (base := base) (k := 10) F37 B (calMk g__law_asked m34 k34 b34 (by decide) : C8.Cal l.prog w K mg base 10 _ _ []) (calMk g__law_put_in m35 k35 b35 (by decide) : C8.Cal l.prog w K mg base 10 _ _ []) (calMk g__law_turned m36 k36 b36 (by decide) : C8.Cal l.prog w K mg base 10 _ _ []) (calMk g__law_from8 m37 k37 b37 (by decide) : C8.Cal l.prog w K mg base 10 _ _ [])
  have g__law_from10 := ok__law_from (P := l.prog) (w := w) (mg := mg) (base := base) (k := 11) F37 B (calMk g__law_asked m34 k34 b34 (by decide) : C8.Cal l.prog w K mg base 11 _ _ []) (calMk g__law_put_in m35 k35 b35 (by decide) : C8.Cal l.prog w K mg base 11 _ _ []) (calMk g__law_turned m36 k36 b36 (by decide) : C8.Cal l.prog w K mg base 11 _ _ []) (calMk g__law_from9 m37 k37 b37 (by decide) : C8.Cal l.prog w K mg base 11 _ _ [])
  have g__law_from11 := ok__law_from (P := l.prog) (w := w) (mg := mg) (base := base) (k := 12) F37 B (calMk g__law_asked m34 k34 b34 (by decide) : C8.Cal l.prog w K mg base 12 _ _ []) (calMk g__law_put_in m35 k35 b35 (by decide) : C8.Cal l.prog w K mg base 12 _ _ []) (calMk g__law_turned m36 k36 b36 (by decide) : C8.Cal l.prog w K mg base 12 _ _ []) (calMk g__law_from10 m37 k37 b37 (by decide) : C8.Cal l.prog w K mg base 12 _ _ [])
  have g__law_from12 := ok__law_from (P := l.prog) (w := w) (mg := mg) (base := base) (k := 13) F37 B (calMk g__law_asked m34 k34 b34 (by decide) : C8.Cal l.prog w K mg base 13 _ _ []) (calMk g__law_put_in m35 k35 b35 (by decide) : C8.Cal l.prog w K mg base 13 _ _ []) (calMk g__law_turned m36 k36 b36 (by decide) : C8.Cal l.prog w K mg base 13 _ _ []) (calMk g__law_from11 m37 k37 b37 (by decide) : C8.Cal l.prog w K mg base 13 _ _ [])
  have g__law_from13 := ok__law_from (P := l.prog) (w := w) (mg := mg) (base := base) (k := 14) F37 B (calMk g__law_asked m34 k34 b34 (by decide) : C8.Cal l.prog w K mg base 14 _ _ []) (calMk g__law_put_in m35 k35 b35 (by decide) : C8.Cal l.prog w K mg base 14 _ _ []) (calMk g__law_turned m36 k36 b36 (by decide) : C8.Cal l.prog w K mg base 14 _ _ []) (calMk g__law_from12 m37 k37 b37 (by decide) : C8.Cal l.prog w K mg base 14 _ _ [])
  have g__law_from14 := ok__law_from (P := l.prog) (w := w) (mg := mg) (base := base) (k := 15) F37 B (calMk g__law_asked m34 k34 b34 (by decide) : C8.Cal l.prog w K mg base 15 _ _ []) (calMk g__law_put_in m35 k35 b35 (by decide) : C8.Cal l.prog w K mg base 15 _ _ []) (calMk g__law_turned m36 k36 b36 (by decide) : C8.Cal l.prog w K mg base 15 _ _ []) (calMk g__law_from13 m37 k37 b37 (by decide) : C8.Cal l.prog w K mg base 15 _ _ [])
  have g__law_due := ok__law_due (P := l.prog) (w := w) (mg := mg) (base := base) (k := 16) F38 B (calMk g__law_unit m27 k27 b27 (by decide) : C8.Cal l.prog w K mg base 16 _ _ []) (calMk g__law_from14 m37 k37 b37 (by decide) : C8.Cal l.prog w K mg base 16 _ _ [])
  have g__law_whole := ok__law_whole (P := l.prog) (w := w) (mg := mg) (base := base) (k := 0) F25 B
  have g__law_kinds_good := ok__law_kinds_good (P := l.prog) (w := w) (mg := mg) (base := base) (k := 1) F39 B (calMk g__law_whole m25 k25 b25 (by decide) : C8.Cal l.prog w K mg base 1 _ _ [])
  have g__law_words_right := ok__law_words_right (P := l.prog) (w := w) (mg := mg) (base := base) (k := 3) F40 B (calMk g_asked m17 k17 b17 (by decide) : C8.Cal l.prog w K mg base 3 _ _ []) (calMk g__law_asked m34 k34 b34 (by decide) : C8.Cal l.prog w K mg base 3 _ _ [])
  exact ok_law (k := 16) F41 B cp (calMk g__law_program m32 k32 b32 (by decide) : C8.Cal l.prog w K mg base 17 _ _ []) (calMk g__law_at m24 k24 b24 (by decide) : C8.Cal l.prog w K mg base 17 _ _ []) (calMk g__law_code4 m33 k33 b33 (by decide) : C8.Cal l.prog w K mg base 17 _ _ []) (calMk g__law_due m38 k38 b38 (by decide) : C8.Cal l.prog w K mg base 17 _ _ []) (calMk g_tasks m18 k18 b18 (by decide) : C8.Cal l.prog w K mg base 17 _ _ []) (calMk g__law_kinds_good m39 k39 b39 (by decide) : C8.Cal l.prog w K mg base 17 _ _ []) (calMk g__law_words_right m40 k40 b40 (by decide) : C8.Cal l.prog w K mg base 17 _ _ []) (qC 16 (by decide))
theorem walk {l : PySem.W.OpenLaw} {q : Program} {loose : List Str} {XP : (Str → Option Value) → Heap → Prop} {YP : World → Heap → Prop} {d : DefRec} {K : Params → PySem.W.Frag} (hn : l.most = some 63) (hdf : d.params.defaults = [])
    (hY : ∀ (w : World) (h : Heap), YP w h → (K w.params).In h)
    (F : ∀ (w : World) (mg : Str → Option Value) (fa : Addr) (h : Heap), (K w.params).In h → h.Ns mainGlobals mg → mg d.name = some (.ref fa) →
      ∃ fd : FuncData, (∀ (s : Shared) (u : Value), BindsTo s fd ⟨[u], []⟩ [("_law_script", u)]) ∧ ∀ base : Heap, (K w.params).In base → base.Ns mainGlobals mg → FnOk l.prog w (K w.params) mg base CX0 18 fa fd ["_law_script"] (spLaw (K w.params))) :
    PySem.W.WalkO q loose XP YP l.row.toRowW d [] (fun f vs => PySem.call f vs) :=
  L2.walk_of (n := 63) (k := 18) (x := "_law_script") (CX := fun _ => CX0) (sp := fun w => spLaw (K w.params)) hn (by decide) hdf ⟨rfl, by decide, by decide⟩ hY F (fun _ _ a ns hl _ hS => ⟨a, ns, rfl, hS, hl, fun _ => rfl⟩) fun _ _ _ _ _ z => z
end LW
open PySem PySem.W PyProof.Rows
set_option maxRecDepth 100000 in
set_option maxHeartbeats 0 in
theorem PySem.Challenge.cw_loopwords_k05_tasks_told_holds : PySem.Challenge.rw_loopwords_k05_tasks_told.Holds := by
  w_on; o_law; k_head; (case hw => w_witness2)
  k_fill
  refine LW.walk (l := PySem.Challenge.rw_loopwords_k05_tasks_told) rfl rfl (fun w h Y => PySem.W.kIn_of Y) ?F
  case F =>
    intro w mg fa h KX G hmg
    refine' LW.all_mk KX G hmg ?aC ?aB ?a1 ?l1 ?c1 ?k1 ?a2 ?l2 ?c2 ?k2 ?a3 ?l3 ?c3 ?k3 ?a4 ?l4 ?c4 ?k4 ?a5 ?l5 ?c5 ?k5 ?a6 ?l6 ?c6 ?k6 ?a7 ?l7 ?c7 ?k7 ?a8 ?l8 ?c8 ?k8 ?a9 ?l9 ?c9 ?k9 ?a10 ?l10 ?c10 ?k10 ?a11 ?l11 ?c11 ?k11 ?a12 ?l12 ?c12 ?k12 ?a13 ?l13 ?c13 ?k13 ?a14 ?l14 ?c14 ?k14 ?a15 ?l15 ?c15 ?k15 ?a16 ?l16 ?c16 ?k16 ?a17 ?l17 ?c17 ?k17 ?a18 ?l18 ?c18 ?k18 ?a19 ?l19 ?c19 ?k19 ?a20 ?l20 ?c20 ?k20 ?a21 ?l21 ?c21 ?k21 ?a22 ?l22 ?c22 ?k22 ?a23 ?l23 ?c23 ?k23 ?a24 ?l24 ?c24 ?k24 ?a25 ?l25 ?c25 ?k25 ?a26 ?l26 ?c26 ?k26 ?a27 ?l27 ?c27 ?k27 ?a28 ?l28 ?c28 ?k28 ?a29 ?l29 ?c29 ?k29 ?a30 ?l30 ?c30 ?k30 ?a31 ?l31 ?c31 ?k31 ?a32 ?l32 ?c32 ?k32 ?a33 ?l33 ?c33 ?k33 ?a34 ?l34 ?c34 ?k34 ?a35 ?l35 ?c35 ?k35 ?a36 ?l36 ?c36 ?k36 ?a37 ?l37 ?c37 ?k37 ?a38 ?l38 ?c38 ?k38 ?a39 ?l39 ?c39 ?k39 ?a40 ?l40 ?c40 ?k40 ?a41 ?l41 ?c41 ?k41 ?a42 ?i42 ?l42 ?c42 ?k42 ?a43 ?i43 ?l43 ?c43 ?k43 ?a44 ?i44 ?l44 ?c44 ?k44 ?pp ?ps ?pk ?pr ?l45 ?c45 ?k45 ?pg ?hd ?po ?sa ?mk ?kc ?n1 ?n2 ?xB ?kB ?bB ?tB ?n_MOST_BOXES ?n_HIGHEST_TOP ?n_MOST_ROWS ?n_MOST_WITHIN ?n_MOST_KEPT ?n_HIGHEST_NUMBER ?n_HIGHEST_LAST ?z_len ?z_range ?z_zip ?z_enumerate ?z_sum ?z_all ?z_tuple ?z_list ?z_isinstance ?z_int ?z_bool ?z_str ?z_type
    (case aC => k_is)
    (case aB => k_is)
    (case a1 => k_is)
    (case l1 => k_is)
    (case c1 => k_is)
    (case k1 => k_is)
    (case a2 => k_is)
    (case l2 => k_is)
    (case c2 => k_is)
    (case k2 => k_is)
    (case a3 => k_is)
    (case l3 => k_is)
    (case c3 => k_is)
    (case k3 => k_is)
    (case a4 => k_is)
    (case l4 => k_is)
    (case c4 => k_is)
    (case k4 => k_is)
    (case a5 => k_is)
    (case l5 => k_is)
    (case c5 => k_is)
    (case k5 => k_is)
    (case a6 => k_is)
    (case l6 => k_is)
    (case c6 => k_is)
    (case k6 => k_is)
    (case a7 => k_is)
    (case l7 => k_is)
    (case c7 => k_is)
    (case k7 => k_is)
    (case a8 => k_is)
    (case l8 => k_is)
    (case c8 => k_is)
    (case k8 => k_is)
    (case a9 => k_is)
    (case l9 => k_is)
    (case c9 => k_is)
    (case k9 => k_is)
    (case a10 => k_is)
    (case l10 => k_is)
    (case c10 => k_is)
    (case k10 => k_is)
    (case a11 => k_is)
    (case l11 => k_is)
    (case c11 => k_is)
    (case k11 => k_is)
    (case a12 => k_is)
    (case l12 => k_is)
    (case c12 => k_is)
    (case k12 => k_is)
    (case a13 => k_is)
    (case l13 => k_is)
    (case c13 => k_is)
    (case k13 => k_is)
    (case a14 => k_is)
    (case l14 => k_is)
    (case c14 => k_is)
    (case k14 => k_is)
    (case a15 => k_is)
    (case l15 => k_is)
    (case c15 => k_is)
    (case k15 => k_is)
    (case a16 => k_is)
    (case l16 => k_is)
    (case c16 => k_is)
    (case k16 => k_is)
    (case a17 => k_is)
    (case l17 => k_is)
    (case c17 => k_is)
    (case k17 => k_is)
    (case a18 => k_is)
    (case l18 => k_is)
    (case c18 => k_is)
    (case k18 => k_is)
    (case a19 => k_is)
    (case l19 => k_is)
    (case c19 => k_is)
    (case k19 => k_is)
    (case a20 => k_is)
    (case l20 => k_is)
    (case c20 => k_is)
    (case k20 => k_is)
    (case a21 => k_is)
    (case l21 => k_is)
    (case c21 => k_is)
    (case k21 => k_is)
    (case a22 => k_is)
    (case l22 => k_is)
    (case c22 => k_is)
    (case k22 => k_is)
    (case a23 => k_is)
    (case l23 => k_is)
    (case c23 => k_is)
    (case k23 => k_is)
    (case a24 => k_is)
    (case l24 => k_is)
    (case c24 => k_is)
    (case k24 => k_is)
    (case a25 => k_is)
    (case l25 => k_is)
    (case c25 => k_is)
    (case k25 => k_is)
    (case a26 => k_is)
    (case l26 => k_is)
    (case c26 => k_is)
    (case k26 => k_is)
    (case a27 => k_is)
    (case l27 => k_is)
    (case c27 => k_is)
    (case k27 => k_is)
    (case a28 => k_is)
    (case l28 => k_is)
    (case c28 => k_is)
    (case k28 => k_is)
    (case a29 => k_is)
    (case l29 => k_is)
    (case c29 => k_is)
    (case k29 => k_is)
    (case a30 => k_is)
    (case l30 => k_is)
    (case c30 => k_is)
    (case k30 => k_is)
    (case a31 => k_is)
    (case l31 => k_is)
    (case c31 => k_is)
    (case k31 => k_is)
    (case a32 => k_is)
    (case l32 => k_is)
    (case c32 => k_is)
    (case k32 => k_is)
    (case a33 => k_is)
    (case l33 => k_is)
    (case c33 => k_is)
    (case k33 => k_is)
    (case a34 => k_is)
    (case l34 => k_is)
    (case c34 => k_is)
    (case k34 => k_is)
    (case a35 => k_is)
    (case l35 => k_is)
    (case c35 => k_is)
    (case k35 => k_is)
    (case a36 => k_is)
    (case l36 => k_is)
    (case c36 => k_is)
    (case k36 => k_is)
    (case a37 => k_is)
    (case l37 => k_is)
    (case c37 => k_is)
    (case k37 => k_is)
    (case a38 => k_is)
    (case l38 => k_is)
    (case c38 => k_is)
    (case k38 => k_is)
    (case a39 => k_is)
    (case l39 => k_is)
    (case c39 => k_is)
    (case k39 => k_is)
    (case a40 => k_is)
    (case l40 => k_is)
    (case c40 => k_is)
    (case k40 => k_is)
    (case a41 => k_is)
    (case l41 => k_is)
    (case c41 => k_is)
    (case k41 => k_is)
    (case a42 => k_is)
    (case i42 => k_is)
    (case l42 => k_is)
    (case c42 => k_is)
    (case k42 => k_is)
    (case a43 => k_is)
    (case i43 => k_is)
    (case l43 => k_is)
    (case c43 => k_is)
    (case k43 => k_is)
    (case a44 => k_is)
    (case i44 => k_is)
    (case l44 => k_is)
    (case c44 => k_is)
    (case k44 => k_is)
    (case pp => k_is)
    (case ps => k_is)
    (case pk => k_is)
    (case pr => k_is)
    (case l45 => k_is)
    (case c45 => k_is)
    (case k45 => k_is)
    (case pg => k_is)
    (case hd => k_is)
    (case po => k_is)
    (case sa => k_is)
    (case mk => k_is)
    (case kc => k_is)
    (case n1 => k_is)
    (case n2 => k_is)
    (case xB => k_exc)
    (case kB => k_is)
    (case bB => k_is)
    (case tB => k_is)
    (case n_MOST_BOXES => k_is)
    (case n_HIGHEST_TOP => k_is)
    (case n_MOST_ROWS => k_is)
    (case n_MOST_WITHIN => k_is)
    (case n_MOST_KEPT => k_is)
    (case n_HIGHEST_NUMBER => k_is)
    (case n_HIGHEST_LAST => k_is)
    (case z_len => k_is)
    (case z_range => k_is)
    (case z_zip => k_is)
    (case z_enumerate => k_is)
    (case z_sum => k_is)
    (case z_all => k_is)
    (case z_tuple => k_is)
    (case z_list => k_is)
    (case z_isinstance => k_is)
    (case z_int => k_is)
    (case z_bool => k_is)
    (case z_str => k_is)
    (case z_type => k_is)
