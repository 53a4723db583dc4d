import PyProof.Rows.All
import Wide.All
import OpenK.AllK
import Wide.FinOn
import PyProof.EqAt
import PyProof.EqKinds
import PyProof.TupleCall
import HandS.ForMost
import HandS.ForExc
import HandS.Evl
import HandS.Codes
import HandS.IsInst
import HandS.Property
import HandS.Style
import HandS.RevRange
import HandS.Nested
import HandS.Flow
import PySem.Challenge.RW_turnstile_k04_whole_meters_by_stretches
set_option Elab.async false
set_option linter.all false
set_option maxRecDepth 100000
set_option maxHeartbeats 1000000
namespace Tk
open PySem PySem.Spec PyProof.Rows L2 Evl
/-! Big steps over the readings: what a block hands back, or with which slots it falls through; the heap only grows. -/
def Rt (t : TS) (σ : L2.St) (H : Hp) (v : V) : Prop := ∀ H1, Ex H H1 → ∀ D : Ends, (∀ H2, Ex H1 H2 → D.rt v H2) → t D σ H1
def Nx (t : TS) (σ : L2.St) (H : Hp) (σ' : L2.St) : Prop := ∀ H1, Ex H H1 → ∀ D : Ends, (∀ H2, Ex H1 H2 → D.nx σ' H2) → t D σ H1
/-- .. a value by what is true of it and the heap -/
def RtW (t : TS) (σ : L2.St) (H : Hp) (W : V → Hp → Prop) : Prop := ∀ H1, Ex H H1 → ∀ D : Ends, (∀ v H2, Ex H1 H2 → W v H2 → D.rt v H2) → t D σ H1
def EvW (te : TE) (σ : L2.St) (H : Hp) (W : V → Hp → Prop) : Prop := ∀ H1, Ex H H1 → ∀ Q : VK, (∀ v H2, Ex H1 H2 → W v H2 → Q v H2) → te σ H1 Q
section
variable {σ σ' σ'' : L2.St} {H H' : Hp} {v x y z : V} {te ta tb : TE} {t u tw tz : TS} {c c2 : TT} {b : Bool} {W : V → Hp → Prop} {K : PySem.W.Frag} {r : R2}
theorem Rt.mono (e : Ex H H') (h : Rt t σ H v) : Rt t σ H' v := fun H1 a D q => h H1 (e.trans a) D q
theorem Nx.mono (e : Ex H H') (h : Nx t σ H σ') : Nx t σ H' σ' := fun H1 a D q => h H1 (e.trans a) D q
theorem Rt.w (h : Rt t σ H v) (hw : ∀ H1, Ex H H1 → W v H1) : RtW t σ H W := fun H1 e D q => h H1 e D fun H2 e2 => q v H2 e2 (hw H2 (e.trans e2))
theorem Rt.is (h : Rt t σ H x) (e : x = y) : Rt t σ H y := e ▸ h
theorem Nx.is (h : Nx t σ H σ') (e : σ' = σ'') : Nx t σ H σ'' := e ▸ h
theorem rt_ret (h : Ev te σ H v) : Rt (tRet te) σ H v := fun H1 e D q => h H1 e _ fun H2 e2 => q H2 e2
theorem rt_retN : Rt tRetN σ H .non := fun H1 _ D q => q H1 (Ex.refl H1)
theorem rtw_ret (h : EvW te σ H W) : RtW (tRet te) σ H W := fun H1 e D q => h H1 e _ fun v H2 e2 w => q v H2 e2 w
theorem rt_seq (h : Nx t σ H σ') (k : Rt u σ' H v) : Rt (tSeq t u) σ H v := fun H1 e D q => h H1 e { D with nx := u D } fun H2 e2 => k H2 (e.trans e2) D fun H3 e3 => q H3 (e2.trans e3)
theorem rtw_seq (h : Nx t σ H σ') (k : RtW u σ' H W) : RtW (tSeq t u) σ H W := fun H1 e D q => h H1 e { D with nx := u D } fun H2 e2 => k H2 (e.trans e2) D fun v H3 e3 w => q v H3 (e2.trans e3) w
theorem rt_now (h : Rt t σ H v) : Rt (tSeq t u) σ H v := fun H1 e D q => h H1 e { D with nx := u D } q
theorem rtw_now (h : RtW t σ H W) : RtW (tSeq t u) σ H W := fun H1 e D q => h H1 e { D with nx := u D } q
theorem nx_seq (h : Nx t σ H σ') (k : Nx u σ' H σ'') : Nx (tSeq t u) σ H σ'' := fun H1 e D q => h H1 e { D with nx := u D } fun H2 e2 => k H2 (e.trans e2) D fun H3 e3 => q H3 (e2.trans e3)
theorem nx_next : Nx tNext σ H σ := fun H1 _ D q => q H1 (Ex.refl H1)
theorem nx_asg {i : Nat} (h : Ev te σ H v) : Nx (tAsg te (gName i)) σ H (σ.set i (some v)) := fun H1 e D q => h H1 e _ fun H2 e2 => q H2 e2
theorem nx_drop (h : Ev te σ H v) : Nx (tDrop te) σ H σ := fun H1 e D q => h H1 e _ fun H2 e2 => q H2 e2
theorem nx_aug {i : Nat} {f : Int → Int → Int} {a d : Int} (hx : σ[i]? = some (some (.int a))) (h : Ev te σ H (.int d)) : Nx (tAug i te (ipI f)) σ H (σ.set i (some (.int (f a d)))) := fun H1 e D q =>
  ⟨.int a, hx, h H1 e _ fun H2 e2 => ⟨a, d, rfl, rfl, q H2 e2⟩⟩
theorem rt_if (h : EvT c σ H b) (h1 : b = true → Rt t σ H v) (h2 : b = false → Rt u σ H v) : Rt (tIfS c t u) σ H v := fun H1 e D q => h H1 e _ fun H2 e2 => by
  cases b with
  | true =>
    show t D σ H2
    exact h1 rfl H2 (e.trans e2) D fun H3 e3 => q H3 (e2.trans e3)
  | false =>
    show u D σ H2
    exact h2 rfl H2 (e.trans e2) D fun H3 e3 => q H3 (e2.trans e3)
theorem rtw_if (h : EvT c σ H b) (h1 : b = true → RtW t σ H W) (h2 : b = false → RtW u σ H W) : RtW (tIfS c t u) σ H W := fun H1 e D q => h H1 e _ fun H2 e2 => by
  cases b with
  | true =>
    show t D σ H2
    exact h1 rfl H2 (e.trans e2) D fun v H3 e3 w => q v H3 (e2.trans e3) w
  | false =>
    show u D σ H2
    exact h2 rfl H2 (e.trans e2) D fun v H3 e3 w => q v H3 (e2.trans e3) w
theorem nx_if (h : EvT c σ H b) (h1 : b = true → Nx t σ H σ') (h2 : b = false → Nx u σ H σ') : Nx (tIfS c t u) σ H σ' := fun H1 e D q => h H1 e _ fun H2 e2 => by
  cases b with
  | true =>
    show t D σ H2
    exact h1 rfl H2 (e.trans e2) D fun H3 e3 => q H3 (e2.trans e3)
  | false =>
    show u D σ H2
    exact h2 rfl H2 (e.trans e2) D fun H3 e3 => q H3 (e2.trans e3)
/-- if c: leaves; rest -/
theorem rt_ifseq (h : EvT c σ H b) (h1 : b = true → Rt t σ H v) (h2 : b = false → Rt tz σ H v) : Rt (tSeq (tIfS c t tNext) tz) σ H v := fun H1 e D q => h H1 e _ fun H2 e2 => by
  cases b with
  | true =>
    show t { D with nx := tz D } σ H2
    exact h1 rfl H2 (e.trans e2) _ fun H3 e3 => q H3 (e2.trans e3)
  | false =>
    show tz D σ H2
    exact h2 rfl H2 (e.trans e2) D fun H3 e3 => q H3 (e2.trans e3)
theorem rtw_ifseq (h : EvT c σ H b) (h1 : b = true → RtW t σ H W) (h2 : b = false → RtW tz σ H W) : RtW (tSeq (tIfS c t tNext) tz) σ H W := fun H1 e D q => h H1 e _ fun H2 e2 => by
  cases b with
  | true =>
    show t { D with nx := tz D } σ H2
    exact h1 rfl H2 (e.trans e2) _ fun v H3 e3 w => q v H3 (e2.trans e3) w
  | false =>
    show tz D σ H2
    exact h2 rfl H2 (e.trans e2) D fun v H3 e3 w => q v H3 (e2.trans e3) w
theorem Rt.fin {Q : VK} {N : L2.St → Hp → Prop} (h : Rt t σ H v) (k : RetV v H Q) : t { nx := N, rt := Q } σ H := h H (Ex.refl H) _ fun H2 e => k H2 e
theorem RtW.fin {Q : VK} {N : L2.St → Hp → Prop} (h : RtW t σ H W) (k : ∀ v H2, Ex H H2 → W v H2 → Q v H2) : t { nx := N, rt := Q } σ H := h H (Ex.refl H) _ fun v H2 e w => k v H2 e w
/-! loops whose turns are known: s i are the slots ahead of turn i -/
def GNx (g : TG) (u : TS) (x : V) (σ : L2.St) (H : Hp) (σ' : L2.St) : Prop := ∀ H1, Ex H H1 → ∀ D : Ends, (∀ H2, Ex H1 H2 → D.nx σ' H2) → g x σ H1 fun σ2 H2 => u D σ2 H2
def GRtW (g : TG) (u : TS) (x : V) (σ : L2.St) (H : Hp) (W : V → Hp → Prop) : Prop := ∀ H1, Ex H H1 → ∀ D : Ends, (∀ v H2, Ex H1 H2 → W v H2 → D.rt v H2) → g x σ H1 fun σ2 H2 => u D σ2 H2
structure Gen (J : It) (items : Nat → V) (n : Nat) (H : Hp) : Prop where
  go : ∀ i H1, Ex H H1 → i < n → J.go i H1
  yld : ∀ i x H1 H2, Ex H H1 → i < n → J.yld i H1 x H2 → H2 = H1 ∧ x = items i
  stop : ∀ H1, Ex H H1 → J.stop n H1
theorem gnx_name {j : Nat} (h : Nx u (σ.set j (some x)) H σ') : GNx (gName j) u x σ H σ' := fun H1 e D q => h H1 e D q
theorem grt_name {j : Nat} (h : Rt u (σ.set j (some x)) H v) : GRtW (gName j) u x σ H (fun v' _ => v' = v) := fun H1 e D q => h H1 e D fun H2 e2 => q v H2 e2 rfl
theorem grtw_name {j : Nat} (h : RtW u (σ.set j (some x)) H W) : GRtW (gName j) u x σ H W := fun H1 e D q => h H1 e D q
theorem gen_r {lo : Int} {n : Nat} : Gen (Itr lo n) (fun i => .int (lo + (i : Int))) n H := ⟨fun _ _ _ h => h, fun _ _ _ _ _ _ y => y, fun _ _ => Nat.le_refl _⟩
theorem gen_c {lo d : Int} {n : Nat} : Gen (Itc lo d n) (fun i => .int (lo + (i : Nat) * d)) n H := ⟨fun _ _ _ h => h, fun _ _ _ _ _ _ y => y, fun _ _ => Nat.le_refl _⟩
theorem gen_l {a : Addr} {xs : List V} {d : V} (h : SqL K H a xs) : Gen (Itl K a) (fun i => xs.getD i d) xs.length H :=
  ⟨fun i H1 e hi => ⟨xs, xs[i], ex_l e h, by simp [hi]⟩, fun i x H1 H2 e hi y => by
    obtain ⟨y1, y2⟩ := y
    refine ⟨y1, ?_⟩
    have z : xs[i]? = some x := y2 xs (ex_l e h)
    rw [List.getD_eq_getElem?_getD, z]
    rfl, fun H1 e => ⟨xs, ex_l e h, Nat.le_refl _⟩⟩
theorem gen_t {a : Addr} {xs : List V} {d : V} (h : SqT K H a xs) : Gen (Itt K a) (fun i => xs.getD i d) xs.length H :=
  ⟨fun i H1 e hi => ⟨xs, xs[i], ex_t e h, by simp [hi]⟩, fun i x H1 H2 e hi y => by
    obtain ⟨y1, y2⟩ := y
    refine ⟨y1, ?_⟩
    have z : xs[i]? = some x := y2 xs (ex_t e h)
    rw [List.getD_eq_getElem?_getD, z]
    rfl, fun H1 e => ⟨xs, ex_t e h, Nat.le_refl _⟩⟩
theorem for_nx {J : It} {items : Nat → V} {n : Nat} {g : TG} {H1 : Hp} {D : Ends} (s : Nat → L2.St) (G : Gen J items n H) (e : Ex H H1) (hs : ∀ i, i < n → GNx g u (items i) (s i) H (s (i + 1))) (q : ∀ H2, Ex H1 H2 → D.nx (s n) H2) :
    ∃ W : Nat → Nat → L2.St → Hp → Prop, (∃ m, W 0 m (s 0) H1) ∧ ∀ i m σ H, W i m σ H →
      (J.stop i H ∧ D.nx σ H) ∨ (J.go i H ∧ ∃ N : L2.St → Hp → Prop, (∀ σ' H', N σ' H' → ∃ m', m' < m ∧ W (i + 1) m' σ' H') ∧ ∀ x H', J.yld i H x H' → g x σ H' fun σ2 H2 => u { D with nx := N, ct := N, bk := D.nx } σ2 H2) := by
  refine ⟨fun i m σ H2 => m = n - i ∧ i ≤ n ∧ σ = s i ∧ Ex H1 H2, ⟨n, by simp, Nat.zero_le _, rfl, Ex.refl _⟩, ?_⟩
  rintro i m σ H2 ⟨rfl, hi, rfl, e2⟩
  by_cases hlt : i < n
  · refine .inr ⟨G.go i H2 (e.trans e2) hlt, fun σ' H' => σ' = s (i + 1) ∧ Ex H1 H', fun σ' H' p => ⟨n - (i + 1), by omega, rfl, hlt, p.1, p.2⟩, fun x H' y => ?_⟩
    obtain ⟨rfl, rfl⟩ := G.yld i x H2 H' (e.trans e2) hlt y
    exact hs i hlt _ (e.trans e2) _ fun H3 e3 => ⟨rfl, e2.trans e3⟩
  · obtain rfl : i = n := by omega
    exact .inl ⟨G.stop _ (e.trans e2), q _ e2⟩
theorem for_rt {J : It} {items : Nat → V} {n k : Nat} {g : TG} {H1 : Hp} {D : Ends} (s : Nat → L2.St) (G : Gen J items n H) (e : Ex H H1) (hk : k < n) (hs : ∀ i, i < k → GNx g u (items i) (s i) H (s (i + 1))) (hr : GRtW g u (items k) (s k) H W) (q : ∀ v H2, Ex H1 H2 → W v H2 → D.rt v H2) :
    ∃ W : Nat → Nat → L2.St → Hp → Prop, (∃ m, W 0 m (s 0) H1) ∧ ∀ i m σ H, W i m σ H →
      (J.stop i H ∧ D.nx σ H) ∨ (J.go i H ∧ ∃ N : L2.St → Hp → Prop, (∀ σ' H', N σ' H' → ∃ m', m' < m ∧ W (i + 1) m' σ' H') ∧ ∀ x H', J.yld i H x H' → g x σ H' fun σ2 H2 => u { D with nx := N, ct := N, bk := D.nx } σ2 H2) := by
  refine ⟨fun i m σ H2 => m = n - i ∧ i ≤ k ∧ σ = s i ∧ Ex H1 H2, ⟨n, by simp, Nat.zero_le _, rfl, Ex.refl _⟩, ?_⟩
  rintro i m σ H2 ⟨rfl, hi, rfl, e2⟩
  by_cases hlt : i < k
  · refine .inr ⟨G.go i H2 (e.trans e2) (by omega), fun σ' H' => σ' = s (i + 1) ∧ Ex H1 H', fun σ' H' p => ⟨n - (i + 1), by omega, rfl, hlt, p.1, p.2⟩, fun x H' y => ?_⟩
    obtain ⟨rfl, rfl⟩ := G.yld i x H2 H' (e.trans e2) (by omega) y
    exact hs i hlt _ (e.trans e2) _ fun H3 e3 => ⟨rfl, e2.trans e3⟩
  · obtain rfl : i = k := by omega
    refine .inr ⟨G.go _ H2 (e.trans e2) hk, fun _ _ => False, fun _ _ p => p.elim, fun x H' y => ?_⟩
    obtain ⟨rfl, rfl⟩ := G.yld _ x H2 H' (e.trans e2) hk y
    exact hr _ (e.trans e2) _ fun v H3 e3 w => q v H3 (e2.trans e3) w
/-- what a for walks, told at a heap -/
def EvI (wi : TI) (σ : L2.St) (H : Hp) (items : Nat → V) (n : Nat) : Prop := ∀ H1, Ex H H1 → ∀ R : It → Hp → Prop, (∀ J H2, Ex H1 H2 → Gen J items n H2 → R J H2) → wi σ H1 R
theorem ei_r1 {ta : TA} {n : Int} (h : EvA ta σ H [.int n]) (h1 : -(2 ^ 62) ≤ n) (h2 : n < 2 ^ 62) : EvI (iRng1 ta) σ H (fun i => .int (0 + (i : Int))) n.toNat := fun H1 e R q =>
  h H1 e _ fun H2 e2 => ⟨n, rfl, h1, h2, q _ H2 e2 gen_r⟩
theorem ei_r2 {ta : TA} {a n : Int} (h : EvA ta σ H [.int a, .int n]) (h1 : -(2 ^ 62) ≤ a ∧ a < 2 ^ 62 ∧ -(2 ^ 62) ≤ n ∧ n < 2 ^ 62) : EvI (iRng2 ta) σ H (fun i => .int (a + (i : Int))) (n - a).toNat := fun H1 e R q =>
  h H1 e _ fun H2 e2 => ⟨a, n, rfl, h1, q _ H2 e2 gen_r⟩
theorem ei_r3 {ta : TA} {a n d : Int} {m : Nat} (h : EvA ta σ H [.int a, .int n, .int d]) (h1 : RgC a n d m) : EvI (iRng3 ta) σ H (fun i => .int (a + (i : Nat) * d)) m := fun H1 e R q =>
  h H1 e _ fun H2 e2 => ⟨a, n, d, m, rfl, h1, q _ H2 e2 gen_c⟩
theorem ei_l {a : Addr} {xs : List V} (d : V) (h : Ev te σ H (.ref a)) (hx : SqL K H a xs) : EvI (iList K te) σ H (fun i => xs.getD i d) xs.length := fun H1 e R q =>
  h H1 e _ fun H2 e2 => ⟨a, rfl, ⟨xs, ex_l (e.trans e2) hx⟩, q _ H2 e2 (gen_l (ex_l (e.trans e2) hx))⟩
theorem ei_t {a : Addr} {xs : List V} (d : V) (h : Ev te σ H (.ref a)) (hx : SqT K H a xs) : EvI (iTup K te) σ H (fun i => xs.getD i d) xs.length := fun H1 e R q =>
  h H1 e _ fun H2 e2 => ⟨a, rfl, ⟨xs, ex_t (e.trans e2) hx⟩, q _ H2 e2 (gen_t (ex_t (e.trans e2) hx))⟩
/-- over a new tuple -/
theorem ei_tN {xs : List V} (d : V) (h : EvU te σ H xs) : EvI (iTup K te) σ H (fun i => xs.getD i d) xs.length := fun H1 e R q =>
  h H1 e _ fun p H2 _ e2 hp => ⟨p, rfl, ⟨xs, st_of hp⟩, q _ H2 e2 (gen_t (st_of hp))⟩
theorem GNx.mono {g : TG} (e : Ex H H') (h : GNx g u x σ H σ') : GNx g u x σ H' σ' := fun H1 a D q => h H1 (e.trans a) D q
theorem GRtW.mono {g : TG} (e : Ex H H') (h : GRtW g u x σ H W) : GRtW g u x σ H' W := fun H1 a D q => h H1 (e.trans a) D q
theorem nx_for {wi : TI} {items : Nat → V} {n : Nat} {g : TG} (s : Nat → L2.St) (h : EvI wi (s 0) H items n) (hs : ∀ i, i < n → GNx g u (items i) (s i) H (s (i + 1))) : Nx (tFor wi g u) (s 0) H (s n) := fun H1 e D q =>
  h H1 e _ fun J H2 e2 G => for_nx s G (Ex.refl H2) (fun i hi => (hs i hi).mono (e.trans e2)) fun H3 e3 => q H3 (e2.trans e3)
theorem rtw_for {wi : TI} {items : Nat → V} {n : Nat} {g : TG} (k : Nat) (s : Nat → L2.St) (h : EvI wi (s 0) H items n) (hk : k < n) (hs : ∀ i, i < k → GNx g u (items i) (s i) H (s (i + 1))) (hr : GRtW g u (items k) (s k) H W) : RtW (tFor wi g u) (s 0) H W := fun H1 e D q =>
  h H1 e _ fun J H2 e2 G => for_rt s G (Ex.refl H2) hk (fun i hi => (hs i hi).mono (e.trans e2)) (hr.mono (e.trans e2)) fun v H3 e3 w => q v H3 (e2.trans e3) w
theorem RtW.toV (h : RtW t σ H (fun v' _ => v' = v)) : Rt t σ H v := fun H1 e D q => h H1 e D fun v' H2 e2 w => by rw [w]; exact q H2 e2
theorem Rt.toW (h : Rt t σ H v) : RtW t σ H (fun v' _ => v' = v) := fun H1 e D q => h H1 e D fun H2 e2 => q v H2 e2 rfl
theorem rt_for {wi : TI} {items : Nat → V} {n : Nat} {g : TG} (k : Nat) (s : Nat → L2.St) (h : EvI wi (s 0) H items n) (hk : k < n) (hs : ∀ i, i < k → GNx g u (items i) (s i) H (s (i + 1))) (hr : GRtW g u (items k) (s k) H (fun v' _ => v' = v)) : Rt (tFor wi g u) (s 0) H v :=
  (rtw_for k s h hk hs hr).toV
theorem nx_while (m : Nat) (s : Nat → L2.St) (hs : ∀ i, i < m → EvT c (s i) H true ∧ Nx u (s i) H (s (i + 1))) (hd : EvT c (s m) H false) : Nx (tWhile c u) (s 0) H (s m) := fun H1 e D q =>
  ⟨fun k σ H2 => ∃ i, i ≤ m ∧ k = m - i ∧ σ = s i ∧ Ex H1 H2, ⟨m, 0, Nat.zero_le _, rfl, rfl, Ex.refl _⟩, fun k σ H2 ⟨i, hi, hk, hσ, e2⟩ => by
    subst hk hσ
    by_cases hlt : i < m
    · obtain ⟨h1, h2⟩ := hs i hlt
      refine h1 H2 (e.trans e2) _ fun H3 e3 => ?_
      refine ⟨fun σ' H' => σ' = s (i + 1) ∧ Ex H1 H', fun σ' H' p => ⟨m - (i + 1), by omega, i + 1, hlt, rfl, p.1, p.2⟩, ?_⟩
      exact h2 H3 ((e.trans e2).trans e3) _ fun H4 e4 => ⟨rfl, (e2.trans e3).trans e4⟩
    · obtain rfl : i = m := by omega
      refine hd H2 (e.trans e2) _ fun H3 e3 => ?_
      exact q H3 (e2.trans e3)⟩
/-! tuples as targets, items of displays -/
theorem gnx_tup2 {i j : Nat} {a : Addr} {y : V} (h : SqT K H a [x, y]) (k : Nx u ((σ.set i (some x)).set j (some y)) H σ') : GNx (gTup K 2 (gCons (gName i) (gCons (gName j) gNil))) u (.ref a) σ H σ' := fun H1 e D q =>
  ⟨a, [x, y], rfl, ex_t e h, rfl, x, [y], rfl, y, [], rfl, rfl, k H1 e D q⟩
/-- (..)[i], [..][i] of a display -/
theorem ev_ixNL {xs : List V} {i : Int} (ha : EvL ta σ H xs) (hb : Ev tb σ H (.int i)) (hv : atI xs i = some v) : Ev (tOp (rIxL K) ta tb) σ H v := fun H1 e Q q =>
  ha H1 e _ fun p H2 _ e2 hp => hb H2 (e.trans e2) _ fun H3 e3 => ⟨p, xs, i, v, rfl, rfl, sq_of (e3 p _ hp), hv, q H3 (e2.trans e3)⟩
theorem ev_ixL {p : Addr} {xs : List V} {i : Int} (ha : Ev ta σ H (.ref p)) (hb : Ev tb σ H (.int i)) (hx : SqL K H p xs) (hv : atI xs i = some v) : Ev (tOp (rIxL K) ta tb) σ H v := ev_op ha hb (rv_ixL hx hv)
theorem ev_ixT {p : Addr} {xs : List V} {i : Int} (ha : Ev ta σ H (.ref p)) (hb : Ev tb σ H (.int i)) (hx : SqT K H p xs) (hv : atI xs i = some v) : Ev (tOp (rIxT K) ta tb) σ H v := ev_op ha hb (rv_ixT hx hv)
/-- is None, is not None -/
theorem ev_isN (ha : Ev ta σ H x) : Ev (tIsN ta) σ H (.bl (decide (x = .non))) := fun H1 e Q q => ha H1 e _ fun H2 e2 => q H2 e2
theorem ev_notN (ha : Ev ta σ H x) : Ev (tNotN ta) σ H (.bl (!decide (x = .non))) := fun H1 e Q q => ha H1 e _ fun H2 e2 => q H2 e2
/-- a < b < c -/
theorem ev_chain {tc : TE} {r' : R2} {w : V} {b1 b2 : Bool} (ha : Ev ta σ H x) (hb : Ev tb σ H y) (hr : RV r x y H (.bl b1)) (hc : b1 = true → Ev tc σ H w) (hr' : b1 = true → RV r' y w H (.bl b2)) : Ev (tChain r r' ta tb tc) σ H (.bl (b1 && b2)) := fun H1 e Q q =>
  ha H1 e _ fun H2 e2 => hb H2 (e.trans e2) _ fun H3 e3 => hr H3 ((e.trans e2).trans e3) _ fun H4 e4 => ⟨b1, rfl, by
    cases b1 with
    | true =>
      show tc σ H4 fun w' H5 => r' y w' H5 Q
      exact hc rfl H4 (((e.trans e2).trans e3).trans e4) _ fun H5 e5 => hr' rfl H5 ((((e.trans e2).trans e3).trans e4).trans e5) Q fun H6 e6 => q H6 ((((e2.trans e3).trans e4).trans e5).trans e6)
    | false =>
      show Q (.bl false) H4
      exact q H4 ((e2.trans e3).trans e4)⟩
/-- calls of built-ins by values -/
theorem ev_max {i j : Int} (ha : Ev ta σ H (.int i)) (hb : Ev tb σ H (.int j)) : Ev (tCB (fun xs H Q => ∃ i j, xs = [.int i, .int j] ∧ Q (.int (if j > i then j else i)) H) (tCons ta (tCons tb tNil))) σ H (.int (max i j)) := fun H1 e Q q =>
  ha H1 e _ fun H2 e2 => hb H2 (e.trans e2) _ fun H3 e3 => ⟨i, j, rfl, by
    have z : (if j > i then j else i) = max i j := by
      by_cases h : j > i
      · rw [if_pos h]; omega
      · rw [if_neg h]; omega
    rw [z]
    exact q H3 (e2.trans e3)⟩
theorem ev_min {i j : Int} (ha : Ev ta σ H (.int i)) (hb : Ev tb σ H (.int j)) : Ev (tCB (fun xs H Q => ∃ i j, xs = [.int i, .int j] ∧ Q (.int (if j < i then j else i)) H) (tCons ta (tCons tb tNil))) σ H (.int (min i j)) := fun H1 e Q q =>
  ha H1 e _ fun H2 e2 => hb H2 (e.trans e2) _ fun H3 e3 => ⟨i, j, rfl, by
    have z : (if j < i then j else i) = min i j := by
      by_cases h : j < i
      · rw [if_pos h]; omega
      · rw [if_neg h]; omega
    rw [z]
    exact q H3 (e2.trans e3)⟩
theorem ev_intB {k : Bool} (ha : Ev ta σ H (.bl k)) : Ev (tCB (fun xs H Q => (∃ i, xs = [.int i] ∧ Q (.int i) H) ∨ ∃ k, xs = [.bl k] ∧ Q (.int (if k then 1 else 0)) H) (tCons ta tNil)) σ H (.int (if k then 1 else 0)) := fun H1 e Q q =>
  ha H1 e _ fun H2 e2 => .inr ⟨k, rfl, q H2 e2⟩
theorem ev_lenL {p : Addr} {xs : List V} (ha : Ev ta σ H (.ref p)) (hx : SqL K H p xs) : Ev (tCB (fun xs H Q => ∃ p ys, xs = [.ref p] ∧ (SqL K H p ys ∨ SqT K H p ys) ∧ Q (.int ys.length) H) (tCons ta tNil)) σ H (.int (xs.length : Int)) := fun H1 e Q q =>
  ha H1 e _ fun H2 e2 => ⟨p, xs, rfl, .inl (ex_l (e.trans e2) hx), q H2 e2⟩
theorem ev_lenI {p : Addr} {ns : List Int} (ha : Ev ta σ H (.ref p)) (hx : SqL K H p (ns.map V.int)) : Ev (tCB (fun xs H Q => ∃ p ys, xs = [.ref p] ∧ (SqL K H p ys ∨ SqT K H p ys) ∧ Q (.int ys.length) H) (tCons ta tNil)) σ H (.int (ns.length : Int)) := by
  have h := ev_lenL (K := K) ha hx
  rw [List.length_map] at h
  exact h
/-- a display's item -/
theorem ev_ixN {tv : TA} {vs : List V} {i : Int} (ha : EvA tv σ H vs) (hb : Ev tb σ H (.int i)) (hl : vs.length ≤ 100000) (hv : atI vs i = some v) : Ev (tOp (rIxL K) (tLst tv) tb) σ H v := ev_ixNL (el_lst ha hl) hb hv
/-- isinstance -/
theorem ev_isi {te2 : TE} {cv : V} {tv uv : Value} {k : Bool} (ha : Ev ta σ H x) (hb : Ev te2 σ H cv) (hc : ClsV cv uv) (ht : ∀ H1, Ex H H1 → TyX K H1 x tv) (hk : PySem.W.kitOne K tv uv = some k) : Ev (tCB (rIsi K) (tCons ta (tCons te2 tNil))) σ H (.bl k) := fun H1 e Q q =>
  ha H1 e _ fun H2 e2 => hb H2 (e.trans e2) _ fun H3 e3 => ⟨x, cv, tv, uv, k, rfl, hc, ht H3 ((e.trans e2).trans e3), hk, q H3 (e2.trans e3)⟩
/-- data compared -/
theorem rv_eqD {d f : PySem.PyData} (hd : ∀ H1, Ex H H1 → Dp K H1 x d) (hf : ∀ H1, Ex H H1 → Dp K H1 y f) (sd : PySem.SeqAt.shaped d = true) (sf : PySem.SeqAt.shaped f = true) : RV (rEqD K) x y H (.bl (PySem.PyData.eqv d f)) := fun H1 e Q q => ⟨d, f, hd H1 e, hf H1 e, sd, sf, q H1 (Ex.refl _)⟩
theorem rv_neD {d f : PySem.PyData} (hd : ∀ H1, Ex H H1 → Dp K H1 x d) (hf : ∀ H1, Ex H H1 → Dp K H1 y f) (sd : PySem.SeqAt.shaped d = true) (sf : PySem.SeqAt.shaped f = true) : RV (rNeD K) x y H (.bl (!PySem.PyData.eqv d f)) := fun H1 e Q q => ⟨d, f, hd H1 e, hf H1 e, sd, sf, q H1 (Ex.refl _)⟩
/-! promises of defs that hand back a value and change nothing: R arguments heap value -/
def spF (R : List V → Hp → V → Prop) : Sp := fun vs H Q _ => ∃ v, (∀ H1, Ex H H1 → R vs H1 v) ∧ RetV v H Q
theorem ev_callF {R : List V → Hp → V → Prop} {ta : TA} {vs : List V} {E : XK} (h : EvA ta σ H vs) (hR : ∀ H1, Ex H H1 → R vs H1 v) : Ev (tCall (spF R) [] E ta) σ H v := fun H1 e Q q =>
  h H1 e _ fun H2 e2 => by
    rw [List.append_nil]
    exact ⟨v, fun H3 e3 => hR H3 ((e.trans e2).trans e3), fun H3 e3 => q H3 (e2.trans e3)⟩
/-- .. a value by what is true of it -/
def spW (R : List V → Hp → (V → Hp → Prop) → Prop) : Sp := fun vs H Q _ => ∃ W : V → Hp → Prop, (∀ H1, Ex H H1 → R vs H1 W) ∧ ∀ v H2, Ex H H2 → W v H2 → Q v H2
theorem evw_callW {R : List V → Hp → (V → Hp → Prop) → Prop} {ta : TA} {vs : List V} {E : XK} (h : EvA ta σ H vs) (hR : ∀ H1, Ex H H1 → R vs H1 W) : EvW (tCall (spW R) [] E ta) σ H W := fun H1 e Q q =>
  h H1 e _ fun H2 e2 => by
    rw [List.append_nil]
    exact ⟨W, fun H3 e3 => hR H3 ((e.trans e2).trans e3), fun v H3 e3 w => q v H3 (e2.trans e3) w⟩
theorem evw_tup {vs : List V} (h : EvU te σ H vs) : EvW te σ H (fun v H1 => ∃ p, v = .ref p ∧ H1 p = some (.tup vs)) := fun H1 e Q q => h H1 e _ fun p H2 _ e2 hp => q _ H2 e2 ⟨p, rfl, hp⟩
theorem evw_v (h : Ev te σ H v) (hw : ∀ H1, Ex H H1 → W v H1) : EvW te σ H W := fun H1 e Q q => h H1 e _ fun H2 e2 => q v H2 e2 (hw H2 (e.trans e2))
end
section
open C8 (Def Fun Cal Met Mak)
variable {P : Program} {w : World} {K : PySem.W.Frag} {mg : Str → Option Value} {base : Heap}
/-- a def that hands back a value, by its body -/
theorem calF {x : Str} {st : Stmt} {f : Addr} {fd : FuncData} {N ps : List Str} {k : Nat} {R : List V → Hp → V → Prop} (F : C8.Def K mg x st f fd) (b : Binds K fd ps []) (S : FnScope N ps (C8.fnScope st)) (len : ∀ vs H v, R vs H v → vs.length = ps.length)
    (hbody : ∀ (cdv : Value) (A : Around) (outer : List Env) (s : Shared) (H : Hp) (vs : List V) (v : V) (E : XK), Room k (A.deeper (envOfC x (C8.fnScope st) s.heap.objs.size f cdv)) → R vs H v →
      ∃ t, PSs (cxOf C8.CX0 P w K mg base N x (C8.fnScope st) f cdv A outer s H E).nox (C8.fnBody st) t ∧ Rt t (start N vs) H v) : C8.Cal P w K mg base (k + 1) x (spF R) [] :=
  C8.cal0 F b .nil S (fun vs H Q E ⟨v, h, _⟩ => len vs H v (h H (Ex.refl H))) fun cdv A outer s H vs Q E hr ⟨v, h, k⟩ => by
    obtain ⟨t, h1, h2⟩ := hbody cdv A outer s H vs v E hr (h H (Ex.refl H))
    exact ⟨t, h1, h2.fin k⟩
theorem calW {x : Str} {st : Stmt} {f : Addr} {fd : FuncData} {N ps : List Str} {k : Nat} {R : List V → Hp → (V → Hp → Prop) → Prop} (F : C8.Def K mg x st f fd) (b : Binds K fd ps []) (S : FnScope N ps (C8.fnScope st)) (len : ∀ vs H v, R vs H v → vs.length = ps.length)
    (hbody : ∀ (cdv : Value) (A : Around) (outer : List Env) (s : Shared) (H : Hp) (vs : List V) (W : V → Hp → Prop) (E : XK), Room k (A.deeper (envOfC x (C8.fnScope st) s.heap.objs.size f cdv)) → R vs H W →
      ∃ t, PSs (cxOf C8.CX0 P w K mg base N x (C8.fnScope st) f cdv A outer s H E).nox (C8.fnBody st) t ∧ RtW t (start N vs) H W) : C8.Cal P w K mg base (k + 1) x (spW R) [] :=
  C8.cal0 F b .nil S (fun vs H Q E ⟨W, h, _⟩ => len vs H W (h H (Ex.refl H))) fun cdv A outer s H vs Q E hr ⟨W, h, k⟩ => by
    obtain ⟨t, h1, h2⟩ := hbody cdv A outer s H vs W E hr (h H (Ex.refl H))
    exact ⟨t, h1, h2.fin k⟩
theorem metF {m qual : Str} {C : Addr} {st : Stmt} {f : Addr} {fd : FuncData} {N ps : List Str} {k : Nat} {R : List V → Hp → V → Prop} (c : Cls K C) (me : Meth K C m f) (F : C8.Fun K m qual st f fd) (b : Binds K fd ps []) (S : FnScope N ps (C8.fnScope st)) (len : ∀ vs H v, R vs H v → vs.length = ps.length)
    (hbody : ∀ (cdv : Value) (A : Around) (outer : List Env) (s : Shared) (H : Hp) (vs : List V) (v : V) (E : XK), Room k (A.deeper (envOfC qual (C8.fnScope st) s.heap.objs.size f cdv)) → R vs H v →
      ∃ t, PSs (cxOf C8.CX0 P w K mg base N qual (C8.fnScope st) f cdv A outer s H E).nox (C8.fnBody st) t ∧ Rt t (start N vs) H v) : C8.Met P w K mg base (k + 1) C m (spF R) [] :=
  C8.met0 c me F b S (fun vs H Q E ⟨v, h, _⟩ => len vs H v (h H (Ex.refl H))) fun cdv A outer s H vs Q E hr ⟨v, h, k⟩ => by
    obtain ⟨t, h1, h2⟩ := hbody cdv A outer s H vs v E hr (h H (Ex.refl H))
    exact ⟨t, h1, h2.fin k⟩
theorem metW {m qual : Str} {C : Addr} {st : Stmt} {f : Addr} {fd : FuncData} {N ps : List Str} {k : Nat} {R : List V → Hp → (V → Hp → Prop) → Prop} (c : Cls K C) (me : Meth K C m f) (F : C8.Fun K m qual st f fd) (b : Binds K fd ps []) (S : FnScope N ps (C8.fnScope st)) (len : ∀ vs H v, R vs H v → vs.length = ps.length)
    (hbody : ∀ (cdv : Value) (A : Around) (outer : List Env) (s : Shared) (H : Hp) (vs : List V) (W : V → Hp → Prop) (E : XK), Room k (A.deeper (envOfC qual (C8.fnScope st) s.heap.objs.size f cdv)) → R vs H W →
      ∃ t, PSs (cxOf C8.CX0 P w K mg base N qual (C8.fnScope st) f cdv A outer s H E).nox (C8.fnBody st) t ∧ RtW t (start N vs) H W) : C8.Met P w K mg base (k + 1) C m (spW R) [] :=
  C8.met0 c me F b S (fun vs H Q E ⟨W, h, _⟩ => len vs H W (h H (Ex.refl H))) fun cdv A outer s H vs Q E hr ⟨W, h, k⟩ => by
    obtain ⟨t, h1, h2⟩ := hbody cdv A outer s H vs W E hr (h H (Ex.refl H))
    exact ⟨t, h1, h2.fin k⟩
end
end Tk
namespace Tk
open PySem PySem.Spec PyProof.Rows L2 Evl
/-! del xs[:k], 0 ≤ k -/
def cutSel (c : Int) (i : Nat) : Bool := if (1 : Int) > 0 then (0 : Int) ≤ i && (i : Int) < c && ((i : Int) - 0) % 1 == 0 else c < i && (i : Int) ≤ 0 && ((0 : Int) - i) % (-1) == 0
theorem cutSel_eq (c i : Nat) : cutSel (c : Int) i = decide (i < c) := by
  unfold cutSel
  rw [if_pos (by decide)]
  have h1 : decide ((0 : Int) ≤ (i : Int)) = true := decide_eq_true (by omega)
  have h2 : (((i : Int) - 0) % 1 == 0) = true := by
    rw [Int.emod_one]
    rfl
  rw [h1, h2, Bool.true_and, Bool.and_true]
  congr 1
  exact propext (by omega)
theorem cut_from : ∀ (l : List Value) (c j : Nat), (l.zipIdx j).filterMap (fun p => if cutSel (c : Int) p.2 = true then none else some p.1) = l.drop (c - j)
  | [], c, j => by simp
  | x :: l, c, j => by
    rw [List.zipIdx_cons, List.filterMap_cons]
    have ih := cut_from l c (j + 1)
    simp only [cutSel_eq, decide_eq_true_eq] at ih ⊢
    by_cases h : j < c
    · rw [if_pos h]
      rw [ih, show c - j = (c - (j + 1)) + 1 by omega, List.drop_succ_cons]
    · rw [if_neg h]
      rw [ih, show c - (j + 1) = 0 by omega, show c - j = 0 by omega]
      rfl
theorem cut_all (l : List Value) (c : Nat) : (l.zipIdx.filterMap fun p => if cutSel (c : Int) p.2 = true then none else some p.1) = l.drop c := cut_from l c 0
section
variable {prog : Program} {w : World} {A : Around} {E : Value → Shared → Prop} {s : Shared}
theorem bounds_to {c n : Nat} (hc : c ≤ n) : sliceBounds none (some (c : Int)) none n = ((0 : Int), (c : Int), 1) := by
  simp only [sliceBounds, Option.getD_none]
  have b1 : ¬ ((c : Int) < 0) := by omega
  simp only [b1, if_false, show (1 : Int) > 0 by decide, if_true]
  congr 1
  congr 1
  omega
theorem cutGo {l sl : Addr} {its : List Value} {n : Nat} {vu : Value} {c : Nat} {Q : Unit → Shared → Prop} {os : Obj} (q1 : s.heap.get? sl = some os) (q3 : os.data = .fields #[.none, vu, .none]) (pu : IsPart vu (some (c : Int)))
    (e : s.heap.get? l = some { cls := .type "list", data := .seq its.toArray n }) (hc : c ≤ its.length) (hz : its.length ≤ sizeLine) (nstep : ¬ ((rawPart none == rawInt 0) = true))
    (h : ∀ f : Array Value → Array Value, f its.toArray = (its.drop c).toArray → Q () { s with heap := s.heap.update l (Obj.mapSeq f) }) {R : Value × Value × Value → Shared → Prop}
    (hR : R (rawPart none, rawPart (some (c : Int)), rawPart none) s) :
    wpAny (model prog w) A (if (rawPart none == rawInt 0) = true then (do rule "list.slice.step-zero"; let __r ← raiseErrorWords "ValueError" "slice step cannot be zero"; (fun _ : PUnit => do let first ← listPart (← field (.ref sl) 0); let last ← listPart (← field (.ref sl) 1); pure (first, last, rawPart none)) __r) else (do let first ← listPart (← field (.ref sl) 0); let last ← listPart (← field (.ref sl) 1); pure (first, last, rawPart none))) R E s := by
  rw [if_neg nstep]
  exact wpAny_bind (wpAny_field q1 q3 (x := .none) rfl (wpAny_bind (wpAny_listPart .none (wpAny_bind (wpAny_field q1 q3 (x := vu) rfl (wpAny_bind (wpAny_listPart pu (wpAny_pure hR))))))))
theorem cutEnd {l : Addr} {its : List Value} {n : Nat} {c : Nat} {Q : Unit → Shared → Prop} (e : s.heap.get? l = some { cls := .type "list", data := .seq its.toArray n }) (hc : c ≤ its.length) (hz : its.length ≤ sizeLine)
    (h : ∀ f : Array Value → Array Value, f its.toArray = (its.drop c).toArray → Q () { s with heap := s.heap.update l (Obj.mapSeq f) }) :
    wpAny (model prog w) A (do
      let old ← Builtin.List.listItems (.ref l)
      let x ← sliceIndices (rawPart none) (rawPart (some (c : Int))) (rawPart none) old.size
      rule "list.__delitem__.slice"
      Builtin.List.listUpdate (.ref l) fun xs => (xs.toList.zipIdx.filterMap fun p => if (if x.2.2 > 0 then x.1 ≤ p.2 && p.2 < x.2.1 && (p.2 - x.1) % x.2.2 == 0 else x.2.1 < p.2 && p.2 ≤ x.1 && (x.1 - p.2) % (-x.2.2) == 0 : Bool) = true then none else some p.1).toArray
      letGo (if (x.2.2 == 1) = true then (old.toList.zipIdx.filterMap fun p => if (if x.2.2 > 0 then x.1 ≤ p.2 && p.2 < x.2.1 && (p.2 - x.1) % x.2.2 == 0 else x.2.1 < p.2 && p.2 ≤ x.1 && (x.1 - p.2) % (-x.2.2) == 0 : Bool) = true then some p.1 else none).reverse
        else old.toList.zipIdx.filterMap fun p => if (if x.2.2 > 0 then x.1 ≤ p.2 && p.2 < x.2.1 && (p.2 - x.1) % x.2.2 == 0 else x.2.1 < p.2 && p.2 ≤ x.1 && (x.1 - p.2) % (-x.2.2) == 0 : Bool) = true then some p.1 else none)
      ret .none) (fun fin s' => ∃ v, fin = PySem.Fin.done (Flow.ret v) ∧ Q () s') E s := by
  unfold Builtin.List.listItems
  refine wpAny_bind (wpAny_bind (wpAny_seqItems e rfl (wpAny_pure ?_)))
  refine wpAny_bind (wpAny_of_eq ((sliceIndices_raw none (some (c : Int)) none its.toArray.size (by simp)).trans (congrArg (pure : Int × Int × Int → Sem (Int × Int × Int)) (bounds_to (by rw [List.size_toArray]; exact hc)))) ?_)
  refine wpAny_bind (wpAny_rule ?_)
  dsimp only
  have key : ((its.zipIdx.filterMap fun p => if (if (1 : Int) > 0 then (0 : Int) ≤ p.2 && (p.2 : Int) < (c : Int) && ((p.2 : Int) - 0) % 1 == 0 else (c : Int) < p.2 && (p.2 : Int) ≤ 0 && ((0 : Int) - p.2) % -1 == 0 : Bool) = true then none else some p.1).toArray) = (its.drop c).toArray := congrArg List.toArray (cut_all its c)
  refine wpAny_bind (m := updateSeq l _) (wpAny_updateSeq (hz := by rw [List.size_toArray]; exact hz) (_hz' := ?hz2) e rfl ?_)
  case hz2 =>
    refine Nat.le_trans (Nat.le_of_eq (congrArg Array.size key)) ?_
    rw [List.size_toArray, List.length_drop]
    omega
  refine wpAny_bind (wpAny_letGo ?_)
  exact wpAny_pure ⟨.none, rfl, h _ key⟩
theorem delItem_to {l sl : Addr} {its : List Value} {n : Nat} {vu : Value} {c : Nat} {Q : Unit → Shared → Prop} (e : s.heap.get? l = some { cls := .type "list", data := .seq its.toArray n }) (hs : s.heap.IsSliceOf sl .none vu .none) (pu : IsPart vu (some (c : Int))) (hc : c ≤ its.length) (hz : its.length ≤ sizeLine)
    (h : ∀ f : Array Value → Array Value, f its.toArray = (its.drop c).toArray → Q () { s with heap := s.heap.update l (Obj.mapSeq f) }) : wpAny (model prog w) A (delItem (.ref l) (.ref sl)) Q E s := by
  obtain ⟨os, q1, q2, q3⟩ := id hs
  have tS : s.TypeIs (.ref sl) "slice" := ⟨os, q1, q2⟩
  have tL : s.TypeIs (.ref l) "list" := ⟨_, e, rfl⟩
  refine wpAny_delItem_slot (T := "list") tL (by decide) F.slot_list_delitem (wpAny_call_entry F.slot_list_delitem tL F.entry_list_delitem ?_ (F.args_list_delitem_2 _ _))
  have nstep : ¬ ((rawPart none == rawInt 0) = true) := Bool.false_ne_true
  show wpAny _ _ (Builtin.List.listSubscript? (.ref sl) >>= _) _ _ s
  unfold Builtin.List.listSubscript?
  refine wpAny_bind (wpAny_bind (wpAny_specialOf tS slice_no_index (by simp only [Option.isNone_none, if_true]; refine wpAny_pure ?_; show wpAny _ _ (typeOf (.ref sl) >>= _) _ _ s; refine wpAny_bind (wpAny_typeOf tS ?_); rw [if_neg (by decide), listSliceParts_eq]; refine wpAny_bind (wpAny_bind (wpAny_field q1 q3 (x := .none) rfl (wpAny_bind (wpAny_listPart .none ?_)))); refine cutGo q1 q3 pu e hc hz nstep h ?_; exact cutEnd e hc hz h)))
end
section
variable {X : Cx}
def tDelTo (to te : TE) : TS := fun D σ H => to σ H fun x H1 => tPart te σ H1 fun o H2 => ∃ (l : Addr) (xs : List V) (c : Nat), x = .ref l ∧ o = some (c : Int) ∧ H2 l = some (.lst xs) ∧ c ≤ xs.length ∧ D.nx σ (upd H2 l (.lst (xs.drop c)))
theorem ps_delTo {o e : Expr} {to te : TE} {tpos p2 pos : Pos} (ho : PE X o to) (he : PE X e te) : PS X (.Delete [.Subscript o (.Slice none (some e) none p2) tpos] pos) (tDelTo to te) := by
  refine ⟨fun pins s σ H D I h => ?_⟩
  refine wpAny_Delete (wpAny_deleteEach_cons (wpAny_delete_Subscript (thn (ho.run pins s σ H _ I h) fun u s1 ⟨x, H1, I1, rx, q1⟩ => ?_)))
  refine wpAny_Slice ?_
  rw [evalPart_none]
  refine wpAny_pure (thn ((po_some he).run pins s1 σ H1 _ I1 q1) fun vu s2 ⟨o, H2, I2, pu, l, xs, c, ex, eo, hl, hc, q2⟩ => wpAny_pure ?_)
  subst ex eo
  cases (show u = Value.ref l from rx)
  have I3 : Inv X pins σ H2 { s2 with heap := s2.heap.push { cls := .type "slice", data := .fields #[.none, vu, .none] } } := I2.kept (t' := s2.toks) fun b ob q => Heap.get?_push_of_some _ q
  obtain ⟨z, its, n, r, len, e3⟩ := I3.lstM hl
  refine delItem_to e3 (Heap.IsSliceOf.new ..) pu (by omega) (by omega) fun f hf => wpAny_deleteEach_nil ⟨σ, _, I3.lset (t' := s2.toks) hl e3 hf (r.drop c) ?_, q2⟩
  rw [List.length_drop]
  omega
end
end Tk
namespace Tk
open PySem PySem.Spec PyProof.Rows L2 Evl
section
variable {σ σ' σ'' : L2.St} {H H' : Hp} {v x y z : V} {te ta tb : TE} {t u tw tz : TS} {c c2 : TT} {b : Bool} {W : V → Hp → Prop} {K : PySem.W.Frag} {r : R2} {a C dx : Addr} {fs : List (Str × V)} {f m : Str}
theorem ev_fld (ha : Ev ta σ H (.ref a)) (hx : H a = some (.ins C dx fs)) (hc : Cls K C) (hn : NoAttr K C f) (hl : fs.lookup f = some v) : Ev (tFld K ta f) σ H v := fun H1 e Q q =>
  ha H1 e _ fun H2 e2 => ⟨a, C, dx, fs, v, rfl, (e.trans e2) a _ hx, hc, hn, hl, q H2 e2⟩
theorem ev_methF {R : List V → Hp → V → Prop} {tA : TA} {vs : List V} {E : XK} (ha : Ev ta σ H (.ref a)) (hx : H a = some (.ins C dx fs)) (hm : fs.lookup m = none) (h : EvA tA σ H vs) (hR : ∀ H1, Ex H H1 → R (.ref a :: vs) H1 v) : Ev (tMeth C m (spF R) [] E ta tA) σ H v := fun H1 e Q q =>
  ha H1 e _ fun H2 e2 => ⟨a, dx, fs, rfl, (e.trans e2) a _ hx, hm, h H2 (e.trans e2) _ fun H3 e3 => by
    rw [List.append_nil]
    exact ⟨v, fun H4 e4 => hR H4 (((e.trans e2).trans e3).trans e4), fun H4 e4 => q H4 ((e2.trans e3).trans e4)⟩⟩
theorem evw_methW {R : List V → Hp → (V → Hp → Prop) → Prop} {tA : TA} {vs : List V} {E : XK} (ha : Ev ta σ H (.ref a)) (hx : H a = some (.ins C dx fs)) (hm : fs.lookup m = none) (h : EvA tA σ H vs) (hR : ∀ H1, Ex H H1 → R (.ref a :: vs) H1 W) : EvW (tMeth C m (spW R) [] E ta tA) σ H W := fun H1 e Q q =>
  ha H1 e _ fun H2 e2 => ⟨a, dx, fs, rfl, (e.trans e2) a _ hx, hm, h H2 (e.trans e2) _ fun H3 e3 => by
    rw [List.append_nil]
    exact ⟨W, fun H4 e4 => hR H4 (((e.trans e2).trans e3).trans e4), fun v H4 e4 w => q v H4 ((e2.trans e3).trans e4) w⟩⟩
/-- what an __init__ promises: of these arguments, at a new instance -/
def spI (C : Addr) (Dm : List V → Prop) (J : List V → Addr → Addr → Hp → Prop) : Sp := fun vs H Q _ => ∃ (x dx : Addr) (as : List V), vs = .ref x :: as ∧ H x = some (.ins C dx []) ∧ Dm as ∧ ∀ H2, (∀ b o, b ≠ x → H b = some o → H2 b = some o) → J as x dx H2 → Q .non H2
theorem evw_make {Dm : List V → Prop} {J : List V → Addr → Addr → Hp → Prop} {tA : TA} {vs : List V} {E : XK} (h : EvA tA σ H vs) (hd : Dm vs) : EvW (tMake C (spI C Dm J) [] E tA) σ H (fun v H2 => ∃ x dx, v = .ref x ∧ J vs x dx H2) := fun H1 e Q q =>
  h H1 e _ fun H2 e2 => fun x dx nx nd ne => by
    rw [List.append_nil]
    refine ⟨x, dx, vs, rfl, upd_same, hd, fun H3 k w => ⟨rfl, q _ H3 (e2.trans fun b o hb => ?_) ⟨x, dx, rfl, w⟩⟩⟩
    have n1 : b ≠ x := ne_of_none hb nx
    refine k b o n1 ?_
    rw [upd_ne n1, upd_ne (ne_of_none hb nd)]
    exact hb
/-! blocks by what holds of the slots behind -/
def NxP (t : TS) (σ : L2.St) (H : Hp) (P : L2.St → Prop) : Prop := ∀ H1, Ex H H1 → ∀ D : Ends, (∀ σ' H2, Ex H1 H2 → P σ' → D.nx σ' H2) → t D σ H1
theorem nxp_of {P : L2.St → Prop} (h : Nx t σ H σ') (p : P σ') : NxP t σ H P := fun H1 e D q => h H1 e D fun H2 e2 => q σ' H2 e2 p
theorem NxP.imp {P P' : L2.St → Prop} (h : NxP t σ H P) (k : ∀ s, P s → P' s) : NxP t σ H P' := fun H1 e D q => h H1 e D fun s H2 e2 p => q s H2 e2 (k s p)
theorem rt_seqP {P : L2.St → Prop} (h : NxP t σ H P) (k : ∀ σ', P σ' → Rt u σ' H v) : Rt (tSeq t u) σ H v := fun H1 e D q => h H1 e { D with nx := u D } fun σ' H2 e2 p => k σ' p H2 (e.trans e2) D fun H3 e3 => q H3 (e2.trans e3)
theorem rtw_seqP {P : L2.St → Prop} (h : NxP t σ H P) (k : ∀ σ', P σ' → RtW u σ' H W) : RtW (tSeq t u) σ H W := fun H1 e D q => h H1 e { D with nx := u D } fun σ' H2 e2 p => k σ' p H2 (e.trans e2) D fun v H3 e3 w => q v H3 (e2.trans e3) w
theorem nxp_seqP {P P' : L2.St → Prop} (h : NxP t σ H P) (k : ∀ σ', P σ' → NxP u σ' H P') : NxP (tSeq t u) σ H P' := fun H1 e D q => h H1 e { D with nx := u D } fun σ' H2 e2 p => k σ' p H2 (e.trans e2) D fun s H3 e3 w => q s H3 (e2.trans e3) w
theorem nxp_if {P : L2.St → Prop} (h : EvT c σ H b) (h1 : b = true → NxP t σ H P) (h2 : b = false → NxP u σ H P) : NxP (tIfS c t u) σ H P := fun H1 e D q => h H1 e _ fun H2 e2 => by
  cases b with
  | true =>
    show t D σ H2
    exact h1 rfl H2 (e.trans e2) D fun s H3 e3 => q s H3 (e2.trans e3)
  | false =>
    show u D σ H2
    exact h2 rfl H2 (e.trans e2) D fun s H3 e3 => q s H3 (e2.trans e3)
theorem nxp_while {P : L2.St → Prop} (I : L2.St → Prop) (μ : L2.St → Nat) (h0 : I σ) (hs : ∀ s, I s → ∃ b, EvT c s H b ∧ (b = true → NxP u s H fun s' => I s' ∧ μ s' < μ s) ∧ (b = false → P s)) : NxP (tWhile c u) σ H P := fun H1 e D q =>
  ⟨fun k s H2 => k = μ s ∧ I s ∧ Ex H1 H2, ⟨_, rfl, h0, Ex.refl _⟩, fun k s H2 ⟨hk, hI, e2⟩ => by
    subst hk
    obtain ⟨b, hb, h1, h2⟩ := hs s hI
    refine hb H2 (e.trans e2) _ fun H3 e3 => ?_
    cases b with
    | true =>
      refine ⟨fun s' H' => (I s' ∧ μ s' < μ s) ∧ Ex H1 H', fun s' H' p => ⟨μ s', p.1.2, rfl, p.1.1, p.2⟩, ?_⟩
      exact h1 rfl H3 ((e.trans e2).trans e3) _ fun s' H4 e4 p => ⟨p, (e2.trans e3).trans e4⟩
    | false => exact q s H3 (e2.trans e3) (h2 rfl)⟩
/-! lists of pairs of numbers, tracked -/
def Prs (H : Hp) (ps : List Addr) (vs : List (Int × Int)) : Prop := Paired (fun (p : Addr) (q : Int × Int) => H p = some (.tup [.int q.1, .int q.2])) ps vs
def PairsT (H : Hp) (l : Addr) (vs : List (Int × Int)) : Prop := ∃ ps : List Addr, H l = some (.lst (ps.map V.ref)) ∧ Prs H ps vs
theorem Prs.mono {ps : List Addr} {vs : List (Int × Int)} (e : Ex H H') (h : Prs H ps vs) : Prs H' ps vs := by
  induction h with
  | nil => exact .nil
  | cons h1 _ ih => exact .cons (e _ _ h1) ih
theorem Prs.len {ps : List Addr} {vs : List (Int × Int)} (h : Prs H ps vs) : ps.length = vs.length := by
  induction h with
  | nil => rfl
  | cons _ _ ih => rw [List.length_cons, List.length_cons, ih]
theorem Prs.at {ps : List Addr} {vs : List (Int × Int)} (h : Prs H ps vs) {i : Nat} {q : Int × Int} (hq : vs[i]? = some q) : ∃ p, ps[i]? = some p ∧ H p = some (.tup [.int q.1, .int q.2]) := by
  induction h generalizing i with
  | nil => simp at hq
  | @cons p q' ps vs h1 _ ih =>
    cases i with
    | zero =>
      rw [List.getElem?_cons_zero] at hq
      cases hq
      exact ⟨p, rfl, h1⟩
    | succ i =>
      rw [List.getElem?_cons_succ] at hq
      obtain ⟨p', e1, e2⟩ := ih hq
      exact ⟨p', by rw [List.getElem?_cons_succ]; exact e1, e2⟩
theorem Prs.snoc {ps : List Addr} {vs : List (Int × Int)} {p : Addr} {q : Int × Int} (h : Prs H ps vs) (hp : H p = some (.tup [.int q.1, .int q.2])) : Prs H (ps ++ [p]) (vs ++ [q]) := by
  induction h with
  | nil => exact .cons hp .nil
  | cons h1 _ ih => exact .cons h1 ih
theorem Prs.drop {ps : List Addr} {vs : List (Int × Int)} (k : Nat) (h : Prs H ps vs) : Prs H (ps.drop k) (vs.drop k) := by
  induction h generalizing k with
  | nil =>
    rw [List.drop_nil, List.drop_nil]
    exact .nil
  | cons h1 h2 ih =>
    cases k with
    | zero => exact .cons h1 h2
    | succ k => exact ih k
theorem Prs.take {ps : List Addr} {vs : List (Int × Int)} (k : Nat) (h : Prs H ps vs) : Prs H (ps.take k) (vs.take k) := by
  induction h generalizing k with
  | nil =>
    rw [List.take_nil, List.take_nil]
    exact .nil
  | cons h1 h2 ih =>
    cases k with
    | zero => exact .nil
    | succ k => exact .cons h1 (ih k)
/-- a change elsewhere: at an object that is no tuple -/
theorem Prs.upd {ps : List Addr} {vs : List (Int × Int)} {l : Addr} {o : HO} (h : Prs H ps vs) (hl : ∀ xs, H l ≠ some (.tup xs)) : Prs (L2.upd H l o) ps vs := by
  induction h with
  | nil => exact .nil
  | cons h1 _ ih => exact .cons (by rw [upd_ne (fun z => hl _ (by rw [← z]; exact h1))]; exact h1) ih
theorem PairsT.mono {l : Addr} {vs : List (Int × Int)} (e : Ex H H') (h : PairsT H l vs) : PairsT H' l vs := by
  obtain ⟨ps, h1, h2⟩ := h
  exact ⟨ps, e _ _ h1, h2.mono e⟩
theorem PairsT.lst {l : Addr} {vs : List (Int × Int)} (h : PairsT H l vs) : ∃ xs : List V, SqL K H l xs ∧ xs.length = vs.length := by
  obtain ⟨ps, h1, h2⟩ := h
  exact ⟨_, sq_of h1, by rw [List.length_map]; exact h2.len⟩
theorem ev_lenP {l : Addr} {vs : List (Int × Int)} (ha : Ev ta σ H (.ref l)) (h : PairsT H l vs) : Ev (tCB (fun xs H Q => ∃ p ys, xs = [.ref p] ∧ (SqL K H p ys ∨ SqT K H p ys) ∧ Q (.int ys.length) H) (tCons ta tNil)) σ H (.int (vs.length : Int)) := by
  obtain ⟨xs, h1, h2⟩ := h.lst (K := K)
  rw [← h2]
  exact ev_lenL ha h1
/-- rows[i] -/
theorem ev_pair {l : Addr} {vs : List (Int × Int)} {i : Int} {q : Int × Int} (h : PairsT H l vs) (ha : Ev ta σ H (.ref l)) (hb : Ev tb σ H (.int i)) (h0 : 0 ≤ i) (hq : vs[i.toNat]? = some q) : ∃ p, H p = some (.tup [.int q.1, .int q.2]) ∧ Ev (tOp (rIxL K) ta tb) σ H (.ref p) := by
  obtain ⟨ps, h1, h2⟩ := h
  obtain ⟨p, e1, e2⟩ := h2.at hq
  refine ⟨p, e2, ev_ixL ha hb (sq_of h1) ?_⟩
  obtain ⟨j, rfl⟩ : ∃ j : Nat, i = (j : Int) := ⟨i.toNat, by omega⟩
  refine atI_nat ?_
  rw [List.getElem?_map]
  rw [Int.toNat_natCast] at e1
  rw [e1]
  rfl
theorem ev_pair0 {l : Addr} {vs : List (Int × Int)} {i : Int} {q : Int × Int} (ha : Ev ta σ H (.ref l)) (hb : Ev tb σ H (.int i)) (h : PairsT H l vs) (h0 : 0 ≤ i) (hq : vs[i.toNat]? = some q) : Ev (tOp (rIxT K) (tOp (rIxL K) ta tb) (tC (.int 0))) σ H (.int q.1) := by
  obtain ⟨p, h1, h2⟩ := ev_pair (K := K) h ha hb h0 hq
  exact ev_ixT h2 ev_c (st_of h1) rfl
theorem ev_pair1 {l : Addr} {vs : List (Int × Int)} {i : Int} {q : Int × Int} (ha : Ev ta σ H (.ref l)) (hb : Ev tb σ H (.int i)) (h : PairsT H l vs) (h0 : 0 ≤ i) (hq : vs[i.toNat]? = some q) : Ev (tOp (rIxT K) (tOp (rIxL K) ta tb) (tC (.int 1))) σ H (.int q.2) := by
  obtain ⟨p, h1, h2⟩ := ev_pair (K := K) h ha hb h0 hq
  exact ev_ixT h2 ev_c (st_of h1) rfl
/-! statements that change objects, told at the heap ahead -/
variable {D : Ends}
theorem Nx.go (h : Nx t σ H σ') (k : ∀ H2, Ex H H2 → u D σ' H2) : tSeq t u D σ H := h H (Ex.refl H) { D with nx := u D } k
theorem Rt.go (h : Rt t σ H v) (k : ∀ H2, Ex H H2 → D.rt v H2) : t D σ H := h H (Ex.refl H) D k
theorem s_fldst {y : V} {tv : TE} (hv : Ev tv σ H y) (ha : Ev ta σ H (.ref a)) (hx : H a = some (.ins C dx fs)) (hc : Cls K C) (hn : NoAttr K C f) (hl : fs.length < 1000) (k : ∀ H1, Ex H H1 → D.nx σ (upd H1 a (.ins C dx (putF f y fs)))) : sFld K ta tv f D σ H :=
  hv H (Ex.refl H) _ fun H1 e1 => ha H1 e1 _ fun H2 e2 => ⟨a, C, dx, fs, rfl, (e1.trans e2) _ _ hx, hc, hn, hl, k H2 (e1.trans e2)⟩
theorem s_fldaugst {i j : Int} {tv : TE} (ha : Ev ta σ H (.ref a)) (hx : H a = some (.ins C dx fs)) (hc : Cls K C) (hn : NoAttr K C f) (hl : fs.lookup f = some (.int i)) (hv : Ev tv σ H (.int j)) (hz : fs.length < 1000) (k : ∀ H1, Ex H H1 → D.nx σ (upd H1 a (.ins C dx (putF f (.int (i + j)) fs)))) : sFldAug K ta tv rAdd f D σ H :=
  ha H (Ex.refl H) _ fun H1 e1 => ⟨a, C, dx, fs, .int i, rfl, e1 _ _ hx, hc, hn, hl, hv H1 e1 _ fun H2 e2 => ⟨i, j, rfl, rfl, dx, fs, (e1.trans e2) _ _ hx, hz, k H2 (e1.trans e2)⟩⟩
/-! a loop whose turn goes on with a new state, or leaves -/
def runN {α : Type} (turn : Nat → α → Option α) : Nat → Nat → α → Option α
  | 0, _, st => some st
  | m + 1, i, st => match turn i st with
    | none => none
    | some st' => runN turn m (i + 1) st'
theorem runN_steps {α : Type} (turn : Nat → α → Option α) : ∀ (m i : Nat) (st : α),
    (∃ f : Nat → α, f 0 = st ∧ (∀ j, j < m → turn (i + j) (f j) = some (f (j + 1))) ∧ runN turn m i st = some (f m)) ∨
    (∃ (k : Nat) (f : Nat → α), k < m ∧ f 0 = st ∧ (∀ j, j < k → turn (i + j) (f j) = some (f (j + 1))) ∧ turn (i + k) (f k) = none ∧ runN turn m i st = none)
  | 0, i, st => .inl ⟨fun _ => st, rfl, fun _ h => absurd h (Nat.not_lt_zero _), rfl⟩
  | m + 1, i, st => by
    cases e : turn i st with
    | none =>
      refine .inr ⟨0, fun _ => st, Nat.succ_pos _, rfl, fun _ h => absurd h (Nat.not_lt_zero _), e, ?_⟩
      rw [runN, e]
    | some st' =>
      have er : runN turn (m + 1) i st = runN turn m (i + 1) st' := by rw [runN, e]
      have sh : ∀ j, i + 1 + j = i + (j + 1) := fun j => by omega
      rcases runN_steps turn m (i + 1) st' with ⟨f, h0, h1, h2⟩ | ⟨k, f, hk, h0, h1, h2, h3⟩
      · refine .inl ⟨fun j => match j with | 0 => st | j + 1 => f j, rfl, fun j hj => ?_, er.trans h2⟩
        cases j with
        | zero =>
          show turn i st = some (f 0)
          rw [e, h0]
        | succ j =>
          rw [← sh]
          exact h1 j (Nat.lt_of_succ_lt_succ hj)
      · refine .inr ⟨k + 1, fun j => match j with | 0 => st | j + 1 => f j, Nat.succ_lt_succ hk, rfl, fun j hj => ?_, by rw [← sh]; exact h2, er.trans h3⟩
        cases j with
        | zero =>
          show turn i st = some (f 0)
          rw [e, h0]
        | succ j =>
          rw [← sh]
          exact h1 j (Nat.lt_of_succ_lt_succ hj)
theorem rt_for_opt {α : Type} {wi : TI} {items : Nat → V} {n : Nat} {g : TG} {v0 : V} {st0 : α} (turn : Nat → α → Option α) (S : α → Nat → L2.St) (Iv : Nat → α → Prop) (i0 : Iv 0 st0) (hI : EvI wi (S st0 0) H items n)
    (hs : ∀ i st st', i < n → Iv i st → turn i st = some st' → GNx g u (items i) (S st i) H (S st' (i + 1)) ∧ Iv (i + 1) st') (hn : ∀ i st, i < n → Iv i st → turn i st = none → GRtW g u (items i) (S st i) H (fun v' _ => v' = v0))
    (hr : ∀ st, Iv n st → runN turn n 0 st0 = some st → Rt tz (S st n) H v) (h0 : runN turn n 0 st0 = none → v = v0) : Rt (tSeq (tFor wi g u) tz) (S st0 0) H v := by
  rcases runN_steps turn n 0 st0 with ⟨f, f0, f1, f2⟩ | ⟨k, f, hk, f0, f1, f2, f3⟩
  · have iv : ∀ j, j ≤ n → Iv j (f j) := fun j => by
      induction j with
      | zero => intro _; rw [f0]; exact i0
      | succ j ih => exact fun hj => (hs j (f j) (f (j + 1)) hj (ih (Nat.le_of_succ_le hj)) (by have := f1 j hj; rw [Nat.zero_add] at this; exact this)).2
    have hI' : EvI wi (S (f 0) 0) H items n := by rw [f0]; exact hI
    have z : Nx (tFor wi g u) (S (f 0) 0) H (S (f n) n) := nx_for (fun j => S (f j) j) hI' fun j hj => (hs j _ _ hj (iv j (Nat.le_of_lt hj)) (by have := f1 j hj; rw [Nat.zero_add] at this; exact this)).1
    rw [f0] at z
    exact rt_seq z (hr _ (iv n (Nat.le_refl n)) f2)
  · have iv : ∀ j, j ≤ k → Iv j (f j) := fun j => by
      induction j with
      | zero => intro _; rw [f0]; exact i0
      | succ j ih => exact fun hj => (hs j (f j) (f (j + 1)) (Nat.lt_trans hj hk) (ih (Nat.le_of_succ_le hj)) (by have := f1 j hj; rw [Nat.zero_add] at this; exact this)).2
    have hI' : EvI wi (S (f 0) 0) H items n := by rw [f0]; exact hI
    have z : Rt (tFor wi g u) (S (f 0) 0) H v0 := rt_for k (fun j => S (f j) j) hI' hk (fun j hj => (hs j _ _ (Nat.lt_trans hj hk) (iv j (Nat.le_of_lt hj)) (by have := f1 j hj; rw [Nat.zero_add] at this; exact this)).1) (hn k _ hk (iv k (Nat.le_refl k)) (by rw [Nat.zero_add] at f2; exact f2))
    rw [f0] at z
    rw [h0 f3]
    exact rt_now z
theorem Rt.at (h : Rt t σ' H v) (e : σ = σ') : Rt t σ H v := e ▸ h
theorem getD_some {vs : List (Int × Int)} {i : Nat} (h : i < vs.length) : vs[i]? = some (vs.getD i (0, 0)) := by
  rw [List.getD_eq_getElem?_getD, List.getElem?_eq_getElem h]
  rfl
end
section
variable {P : Program} {w : World} {K : PySem.W.Frag} {mg : Str → Option Value} {base : Heap} {C : Addr} {x m : Str} {sp : Sp} {dvs : List V} {j k : Nat}
theorem metMono (h : j ≤ k) (c : C8.Met P w K mg base j C m sp dvs) : C8.Met P w K mg base k C m sp dvs := by
  obtain ⟨f, fd, ps, ds, h1, h2, F, h3, h4⟩ := c.ex
  exact ⟨f, fd, ps, ds, h1, h2, F.mono h, h3, h4⟩
theorem calMono (h : j ≤ k) (c : C8.Cal P w K mg base j x sp dvs) : C8.Cal P w K mg base k x sp dvs := by
  obtain ⟨f, fd, ps, ds, F, h1, h2, h3, h4⟩ := c.ex
  exact ⟨f, fd, ps, ds, F.mono h, h1, h2, h3, h4⟩
end
theorem rv_isB {a b : Bool} {H : Hp} : RV rIsB (.bl a) (.bl b) H (.bl (decide (a = b))) := fun H1 _ _ q => ⟨a, b, rfl, rfl, q H1 (Ex.refl H1)⟩
end Tk
namespace Tk
open PySem PySem.Spec PyProof.Rows L2 Evl
def top (i : Nat) : Stmt := PySem.Challenge.pw_turnstile_k04_whole_meters_by_stretches.main.body.getD i (.Pass ⟨0, 0, 0, 0⟩)
abbrev s_is_within : Stmt := top 4
theorem sc_is_within : FnScope ["value", "least", "largest"] ["value", "least", "largest"] (C8.fnScope s_is_within) := C8.fnScope_by (by decide +kernel)
abbrev s_Meter_can : Stmt := inClass (top 6) 0
theorem sc_Meter_can : FnScope ["self", "moment", "cost"] ["self", "moment", "cost"] (C8.fnScope s_Meter_can) := C8.fnScope_by (by decide +kernel)
abbrev s_Meter_wait : Stmt := inClass (top 6) 1
theorem sc_Meter_wait : FnScope ["self", "moment", "cost"] ["self", "moment", "cost"] (C8.fnScope s_Meter_wait) := C8.fnScope_by (by decide +kernel)
abbrev s_Meter_take : Stmt := inClass (top 6) 2
theorem sc_Meter_take : FnScope ["self", "moment", "cost"] ["self", "moment", "cost"] (C8.fnScope s_Meter_take) := C8.fnScope_by (by decide +kernel)
abbrev s_Meter_kept : Stmt := inClass (top 6) 3
theorem sc_Meter_kept : FnScope ["self"] ["self"] (C8.fnScope s_Meter_kept) := C8.fnScope_by (by decide +kernel)
abbrev s_JarMeter_init : Stmt := inClass (top 7) 0
theorem sc_JarMeter_init : FnScope ["self", "size", "flow"] ["self", "size", "flow"] (C8.fnScope s_JarMeter_init) := C8.fnScope_by (by decide +kernel)
abbrev s_JarMeter_can : Stmt := inClass (top 7) 1
theorem sc_JarMeter_can : FnScope ["self", "moment", "cost"] ["self", "moment", "cost"] (C8.fnScope s_JarMeter_can) := C8.fnScope_by (by decide +kernel)
abbrev s_JarMeter_wait : Stmt := inClass (top 7) 2
theorem sc_JarMeter_wait : FnScope ["self", "moment", "cost", "excess"] ["self", "moment", "cost"] (C8.fnScope s_JarMeter_wait) := C8.fnScope_by (by decide +kernel)
abbrev s_JarMeter_take : Stmt := inClass (top 7) 3
theorem sc_JarMeter_take : FnScope ["self", "moment", "cost"] ["self", "moment", "cost"] (C8.fnScope s_JarMeter_take) := C8.fnScope_by (by decide +kernel)
abbrev s_JarMeter_kept : Stmt := inClass (top 7) 4
theorem sc_JarMeter_kept : FnScope ["self"] ["self"] (C8.fnScope s_JarMeter_kept) := C8.fnScope_by (by decide +kernel)
abbrev s_JarMeter__level_at : Stmt := inClass (top 7) 5
theorem sc_JarMeter__level_at : FnScope ["self", "moment"] ["self", "moment"] (C8.fnScope s_JarMeter__level_at) := C8.fnScope_by (by decide +kernel)
abbrev s_WindowMeter_init : Stmt := inClass (top 8) 0
theorem sc_WindowMeter_init : FnScope ["self", "most", "span"] ["self", "most", "span"] (C8.fnScope s_WindowMeter_init) := C8.fnScope_by (by decide +kernel)
abbrev s_WindowMeter_can : Stmt := inClass (top 8) 1
theorem sc_WindowMeter_can : FnScope ["self", "moment", "cost"] ["self", "moment", "cost"] (C8.fnScope s_WindowMeter_can) := C8.fnScope_by (by decide +kernel)
abbrev s_WindowMeter_wait : Stmt := inClass (top 8) 2
theorem sc_WindowMeter_wait : FnScope ["self", "moment", "cost", "due", "last_due"] ["self", "moment", "cost"] (C8.fnScope s_WindowMeter_wait) := C8.fnScope_by (by decide +kernel)
abbrev s_WindowMeter_take : Stmt := inClass (top 8) 3
theorem sc_WindowMeter_take : FnScope ["self", "moment", "cost"] ["self", "moment", "cost"] (C8.fnScope s_WindowMeter_take) := C8.fnScope_by (by decide +kernel)
abbrev s_WindowMeter_kept : Stmt := inClass (top 8) 4
theorem sc_WindowMeter_kept : FnScope ["self"] ["self"] (C8.fnScope s_WindowMeter_kept) := C8.fnScope_by (by decide +kernel)
abbrev s_WindowMeter__forget : Stmt := inClass (top 8) 5
theorem sc_WindowMeter__forget : FnScope ["self", "moment", "many"] ["self", "moment"] (C8.fnScope s_WindowMeter__forget) := C8.fnScope_by (by decide +kernel)
abbrev s_place_reaching : Stmt := top 9
theorem sc_place_reaching : FnScope ["rows", "total", "low", "high", "middle"] ["rows", "total"] (C8.fnScope s_place_reaching) := C8.fnScope_by (by decide +kernel)
abbrev s_Bound_room : Stmt := inClass (top 15) 0
theorem sc_Bound_room : FnScope ["self", "first", "last"] ["self", "first", "last"] (C8.fnScope s_Bound_room) := C8.fnScope_by (by decide +kernel)
abbrev s_Bound_meter : Stmt := inClass (top 15) 1
theorem sc_Bound_meter : FnScope ["self"] ["self"] (C8.fnScope s_Bound_meter) := C8.fnScope_by (by decide +kernel)
abbrev s_Jar_init : Stmt := inClass (top 16) 0
theorem sc_Jar_init : FnScope ["self", "size", "flow"] ["self", "size", "flow"] (C8.fnScope s_Jar_init) := C8.fnScope_by (by decide +kernel)
abbrev s_Jar_size : Stmt := inClass (top 16) 1
theorem sc_Jar_size : FnScope ["self"] ["self"] (C8.fnScope s_Jar_size) := C8.fnScope_by (by decide +kernel)
abbrev s_Jar_flow : Stmt := inClass (top 16) 2
theorem sc_Jar_flow : FnScope ["self"] ["self"] (C8.fnScope s_Jar_flow) := C8.fnScope_by (by decide +kernel)
abbrev s_Jar_room : Stmt := inClass (top 16) 3
theorem sc_Jar_room : FnScope ["self", "first", "last"] ["self", "first", "last"] (C8.fnScope s_Jar_room) := C8.fnScope_by (by decide +kernel)
abbrev s_Jar_meter : Stmt := inClass (top 16) 4
theorem sc_Jar_meter : FnScope ["self"] ["self"] (C8.fnScope s_Jar_meter) := C8.fnScope_by (by decide +kernel)
abbrev s_Window_init : Stmt := inClass (top 17) 0
theorem sc_Window_init : FnScope ["self", "most", "span"] ["self", "most", "span"] (C8.fnScope s_Window_init) := C8.fnScope_by (by decide +kernel)
abbrev s_Window_most : Stmt := inClass (top 17) 1
theorem sc_Window_most : FnScope ["self"] ["self"] (C8.fnScope s_Window_most) := C8.fnScope_by (by decide +kernel)
abbrev s_Window_span : Stmt := inClass (top 17) 2
theorem sc_Window_span : FnScope ["self"] ["self"] (C8.fnScope s_Window_span) := C8.fnScope_by (by decide +kernel)
abbrev s_Window_room : Stmt := inClass (top 17) 3
theorem sc_Window_room : FnScope ["self", "first", "last"] ["self", "first", "last"] (C8.fnScope s_Window_room) := C8.fnScope_by (by decide +kernel)
abbrev s_Window_meter : Stmt := inClass (top 17) 4
theorem sc_Window_meter : FnScope ["self"] ["self"] (C8.fnScope s_Window_meter) := C8.fnScope_by (by decide +kernel)
abbrev s_Lcell : Stmt := top 19
theorem sc_Lcell : FnScope ["_law_script", "_law_k", "_law_cell_here", "_law_more"] ["_law_script", "_law_k"] (C8.fnScope s_Lcell) := C8.fnScope_by (by decide +kernel)
abbrev s_Lbound : Stmt := top 20
theorem sc_Lbound : FnScope ["_law_cell_here", "_law_scale_here", "_law_flow"] ["_law_cell_here", "_law_scale_here"] (C8.fnScope s_Lbound) := C8.fnScope_by (by decide +kernel)
abbrev s_Lmade : Stmt := top 21
theorem sc_Lmade : FnScope ["_law_bound_here"] ["_law_bound_here"] (C8.fnScope s_Lmade) := C8.fnScope_by (by decide +kernel)
abbrev s_Lroom : Stmt := top 22
theorem sc_Lroom : FnScope ["_law_bound_here", "_law_first", "_law_last"] ["_law_bound_here", "_law_first", "_law_last"] (C8.fnScope s_Lroom) := C8.fnScope_by (by decide +kernel)
abbrev s_Lwait : Stmt := top 23
theorem sc_Lwait : FnScope ["_law_bound_here", "_law_visits", "_law_moment", "_law_cost_here", "_law_found", "_law_used", "_law_k"] ["_law_bound_here", "_law_visits", "_law_moment", "_law_cost_here"] (C8.fnScope s_Lwait) := C8.fnScope_by (by decide +kernel)
abbrev s_Lgap : Stmt := top 24
theorem sc_Lgap : FnScope ["_law_cell_here"] ["_law_cell_here"] (C8.fnScope s_Lgap) := C8.fnScope_by (by decide +kernel)
abbrev s_Lcost : Stmt := top 25
theorem sc_Lcost : FnScope ["_law_cell_here", "_law_scale_here", "_law_many"] ["_law_cell_here", "_law_scale_here"] (C8.fnScope s_Lcost) := C8.fnScope_by (by decide +kernel)
abbrev s_Lscale : Stmt := top 26
theorem sc_Lscale : FnScope ["_law_cell_here"] ["_law_cell_here"] (C8.fnScope s_Lscale) := C8.fnScope_by (by decide +kernel)
abbrev s_Lsame : Stmt := top 27
theorem sc_Lsame : FnScope ["_law_found", "_law_due"] ["_law_found", "_law_due"] (C8.fnScope s_Lsame) := C8.fnScope_by (by decide +kernel)
abbrev s_Lright : Stmt := top 28
theorem sc_Lright : FnScope ["_law_meter", "_law_bound_here", "_law_visits", "_law_moment", "_law_cost_here", "_law_due", "_law_can", "_law_later"] ["_law_meter", "_law_bound_here", "_law_visits", "_law_moment", "_law_cost_here"] (C8.fnScope s_Lright) := C8.fnScope_by (by decide +kernel)
abbrev s_Lkept : Stmt := top 29
theorem sc_Lkept : FnScope ["_law_meter", "_law_bound_here", "_law_visits", "_law_many", "_law_found", "_law_one"] ["_law_meter", "_law_bound_here", "_law_visits"] (C8.fnScope s_Lkept) := C8.fnScope_by (by decide +kernel)
abbrev s_law : Stmt := top 30
theorem sc_law : FnScope ["_law_script", "_law_scale_here", "_law_bound_here", "_law_meter", "_law_visits", "_law_moment", "_law_k", "_law_cell_here", "_law_cost_here", "_law_due"] ["_law_script"] (C8.fnScope s_law) := C8.fnScope_by (by decide +kernel)
/-- what the top has left of the built-ins -/
structure Blt (mg : Str → Option Value) : Prop where
  b_len : mg "len" = none
  b_range : mg "range" = none
  b_min : mg "min" = none
  b_max : mg "max" = none
  b_int : mg "int" = none
  b_bool : mg "bool" = none
  b_tuple : mg "tuple" = none
  b_isinstance : mg "isinstance" = none
/-! data compared -/
theorem dp_ints {K : PySem.W.Frag} {H : Hp} : ∀ ns : List Int, DpAll K H (ns.map V.int) (ns.map PyData.int)
  | [] => .nil
  | n :: ns => .cons (.int n) (dp_ints ns)
theorem lay_ints : ∀ ns : List Int, PyData.canLayAll0 (ns.map PyData.int) = true
  | [] => by simp only [List.map_nil, PyData.canLayAll0]
  | n :: ns => by simp only [List.map_cons, PyData.canLayAll0, PyData.canLay0, lay_ints ns, Bool.and_self]
theorem dep_ints : ∀ ns : List Int, PyData.depthAll (ns.map PyData.int) = 0
  | [] => by simp only [List.map_nil, PyData.depthAll]
  | n :: ns => by simp only [List.map_cons, PyData.depthAll, PyData.depth, dep_ints ns, Nat.max_self]
theorem shaped_list {ds : List PyData} (h : PyData.canLayAll0 ds = true) (hd : PyData.depthAll ds ≤ 60) : PySem.SeqAt.shaped (.list ds) = true := by
  unfold PySem.SeqAt.shaped
  rw [Bool.and_eq_true, decide_eq_true_eq]
  refine ⟨by simp only [PyData.canLay0, h], ?_⟩
  simp only [PyData.depth]
  omega
theorem shaped_tuple {ds : List PyData} (h : PyData.canLayAll0 ds = true) (hd : PyData.depthAll ds ≤ 60) : PySem.SeqAt.shaped (.tuple ds) = true := by
  unfold PySem.SeqAt.shaped
  rw [Bool.and_eq_true, decide_eq_true_eq]
  refine ⟨by simp only [PyData.canLay0, h], ?_⟩
  simp only [PyData.depth]
  omega
theorem shaped_ints (ns : List Int) : PySem.SeqAt.shaped (.list (ns.map PyData.int)) = true := shaped_list (lay_ints ns) (by rw [dep_ints]; omega)
theorem shaped_tints (ns : List Int) : PySem.SeqAt.shaped (.tuple (ns.map PyData.int)) = true := shaped_tuple (lay_ints ns) (by rw [dep_ints]; omega)
theorem eqvAll_ints : ∀ ns ms : List Int, PyData.eqvAll (ns.map PyData.int) (ms.map PyData.int) = decide (ns = ms)
  | [], [] => by simp [PyData.eqvAll]
  | [], m :: ms => by simp [PyData.eqvAll]
  | n :: ns, [] => by simp [PyData.eqvAll]
  | n :: ns, m :: ms => by
    simp only [List.map_cons, PyData.eqvAll, PyData.eqv, eqvAll_ints ns ms, List.cons.injEq, Bool.decide_and]
    congr 1
theorem eqv_ints (ns ms : List Int) : PyData.eqv (.list (ns.map PyData.int)) (.list (ms.map PyData.int)) = decide (ns = ms) := by
  simp only [PyData.eqv, eqvAll_ints]
theorem eqv_tints (ns ms : List Int) : PyData.eqv (.tuple (ns.map PyData.int)) (.tuple (ms.map PyData.int)) = decide (ns = ms) := by
  simp only [PyData.eqv, eqvAll_ints]
/-- xs != [] -/
theorem ev_neNil {K : PySem.W.Frag} {σ : L2.St} {H : Hp} {ta : TE} {a : Addr} {ns : List Int} (ha : Ev ta σ H (.ref a)) (hx : SqL K H a (ns.map V.int)) : Ev (tOp (rNeD K) ta (tLst tNil)) σ H (.bl (!decide (ns = []))) :=
  ev_opL (xs := []) ha (el_lst ea_nil (by decide)) fun p H1 hp e => by
    rw [← eqv_ints ns []]
    exact rv_neD (fun H2 e2 => .lst (ex_l (e.trans e2) hx) (dp_ints ns)) (fun H2 e2 => .lst (sq_of (e2 p _ hp)) .nil) (shaped_ints ns) (shaped_ints [])
theorem atI_ints {ns : List Int} {i : Int} (h0 : 0 ≤ i) (h1 : i < (ns.length : Int)) : atI (ns.map V.int) i = some (.int (ns.getD i.toNat 0)) := by
  obtain ⟨j, rfl⟩ : ∃ j : Nat, i = (j : Int) := ⟨i.toNat, by omega⟩
  have hj : j < ns.length := by omega
  refine atI_nat ?_
  rw [List.getElem?_map, Int.toNat_natCast, List.getD_eq_getElem?_getD, List.getElem?_eq_getElem hj]
  rfl
/-! items of displays of numbers -/
inductive Ints : List V → List Int → Prop
  | nil : Ints [] []
  | cons {i : Int} {vs : List V} {ns : List Int} : Ints vs ns → Ints (.int i :: vs) (i :: ns)
theorem Ints.map {vs : List V} {ns : List Int} (h : Ints vs ns) : vs = ns.map V.int := by
  induction h with
  | nil => rfl
  | cons _ ih => rw [ih]; rfl
theorem atI_disp {vs : List V} {ns : List Int} {i : Int} (h : Ints vs ns) (h0 : 0 ≤ i) (h1 : i < (ns.length : Int)) : atI vs i = some (.int (ns.getD i.toNat 0)) := by
  rw [h.map]
  exact atI_ints h0 h1
theorem getD_in {lo hi : Int} : ∀ (l : List Int) (n : Nat), (∀ x ∈ l, lo ≤ x ∧ x ≤ hi) → n < l.length → lo ≤ l.getD n 0 ∧ l.getD n 0 ≤ hi
  | [], _, _, h => absurd h (Nat.not_lt_zero _)
  | x :: _, 0, h, _ => h x List.mem_cons_self
  | _ :: l, n + 1, h, hn => getD_in l n (fun x hx => h x (List.mem_cons_of_mem _ hx)) (Nat.lt_of_succ_lt_succ hn)
local macro_rules | `(tactic| walk_at "tk_at") => `(tactic| fail "tk_at")
local macro_rules | `(tactic| walk_at "tk_at") => `(tactic| exact rfl)
local macro_rules | `(tactic| walk_at "tk_at") => `(tactic| (refine atI_ints ?_ ?_ <;> omega))
local macro_rules | `(tactic| walk_at "tk_at") => `(tactic| (apply atI_disp; (repeat (first | exact Ints.nil | apply Ints.cons)); omega; (simp only [List.length_cons, List.length_nil]; omega)))
local macro_rules | `(tactic| walk_at "tk_len") => `(tactic| (with_reducible apply ev_lenL))
local macro_rules | `(tactic| walk_at "tk_R") => `(tactic| fail "tk_R")
local macro_rules | `(tactic| walk_at "tk_om") => `(tactic| first | omega | (simp only [List.length_map]; omega))
local macro_rules | `(tactic| walk_at "tk_ev") => `(tactic| repeat' (first
  | exact ev_c
  | (with_reducible apply rt_ret)
  | (with_reducible exact rt_retN)
  | (with_reducible apply rt_ifseq)
  | (with_reducible apply rt_seq)
  | (with_reducible apply nx_asg)
  | (with_reducible exact nx_next)
  | (with_reducible apply nx_drop)
  | (with_reducible apply rt_if)
  | (with_reducible apply rtw_ret)
  | (with_reducible apply rtw_seq)
  | ((with_reducible apply ev_var); exact rfl)
  | (with_reducible apply ev_max)
  | (with_reducible apply ev_min)
  | (with_reducible apply ev_intB)
  | (with_reducible apply ev_isN)
  | (with_reducible apply ev_notN)
  | (with_reducible apply ev_if)
  | (with_reducible apply ev_andV)
  | (with_reducible apply ev_orV)
  | (with_reducible apply ev_notV)
  | (with_reducible apply ev_chain)
  | ((with_reducible apply ev_lenI); (with_reducible apply ev_var); exact rfl; assumption)
  | walk_at "tk_len"
  | (with_reducible apply ev_fld)
  | (with_reducible apply ev_pair0)
  | (with_reducible apply ev_pair1)
  | (with_reducible apply ev_ixN)
  | (with_reducible apply ev_ixL)
  | (with_reducible apply ev_ixT)
  | (with_reducible apply ev_methF)
  | (with_reducible apply ev_callF)
  | ((with_reducible show ∀ _, Ex _ _ → _); walk_at "tk_R")
  | (with_reducible apply ev_op)
  | (with_reducible apply ev_un)
  | exact rv_I0
  | ((with_reducible show RV (rI _ _) _ _ _ _); apply rv_I)
  | exact rv_eq rfl
  | exact rv_ne rfl
  | exact ru_neg
  | (with_reducible apply et_test)
  | (with_reducible apply et_B)
  | (with_reducible apply et_and)
  | (with_reducible apply et_or)
  | (with_reducible apply et_not)
  | exact ea_nil
  | (with_reducible apply ea_cons)
  | (with_reducible apply eu_tup)
  | (with_reducible apply el_lst)
  | ((with_reducible show SqL _ _ _ _); assumption)
  | ((with_reducible show PairsT _ _ _); assumption)
  | ((with_reducible show Cls _ _); assumption)
  | ((with_reducible show NoAttr _ _ _); assumption)
  | ((with_reducible show _ = some (HO.ins _ _ _)); assumption)
  | ((with_reducible show List.lookup _ _ = some _); exact rfl)
  | ((with_reducible show List.lookup _ _ = none); exact rfl)
  | ((with_reducible show _[_]? = some _); exact getD_some (by walk_at "tk_om"))
  | ((with_reducible show (0 : Int) ≤ _); walk_at "tk_om")
  | ((with_reducible show SqT _ _ _ _); assumption)
  | ((with_reducible show atI _ _ = some _); walk_at "tk_at")
  | ((with_reducible show CMul _ _); first | (exact .inl (by decide)) | (exact .inr (by decide)) | (exact .inl (by omega)) | (exact .inr (by omega)))
  | ((with_reducible show CDiv _ _); first | (exact ⟨by decide, by decide⟩) | (exact ⟨by walk_at "tk_om", by walk_at "tk_om"⟩))
  | ((with_reducible show CPow _ _); exact ⟨by decide, by decide, by decide⟩)
  | ((with_reducible show _ ≤ 100000); first | decide | (simp only [List.length_cons, List.length_nil]; omega))
  | ((with_reducible show (0 : Int) < _); first | decide | walk_at "tk_om")
  | ((with_reducible show (_ = true → _)); intro)
  | ((with_reducible show (_ = false → _)); intro)))
/-! a drawn number of the script's -/
def mixV (c k : Int) : Int := (c % 2147483647 * (c % 2147483647) % 2147483629 * (c % 2147483647 * (c % 2147483647) % 2147483629) + 69621 * (c % 2147483647 * (c % 2147483647) % 2147483629) + k) % 2147483587
def cellV (ns : List Int) (k : Int) : Int := mixV (if ns = [] then 7919 * k + 11 else 7919 * k + 11 + ns.getD (k % (ns.length : Int)).toNat 0 * 48271 + 96810 * k + k / (ns.length : Int) * 7919) k
theorem cellV_nn (ns : List Int) (k : Int) : 0 ≤ cellV ns k := Int.emod_nonneg _ (by decide)
theorem cellV_lt (ns : List Int) (k : Int) : cellV ns k < 2147483587 := Int.emod_lt_of_pos _ (by decide)
def RCell (K : PySem.W.Frag) (vs : List V) (H : Hp) (v : V) : Prop := ∃ (a : Addr) (ns : List Int) (k : Int), vs = [.ref a, .int k] ∧ SqL K H a (ns.map V.int) ∧ ns.length ≤ 63 ∧ 0 ≤ k ∧ v = .int (cellV ns k)
section
variable {P : Program} {w : World} {K : PySem.W.Frag} {mg : Str → Option Value} {base : Heap}
theorem cal_Lcell {f : Addr} {fd : FuncData} (T : Blt mg) (F : C8.Def K mg "_law_cell" s_Lcell f fd) (b : Binds K fd ["_law_script", "_law_k"] []) : C8.Cal P w K mg base 1 "_law_cell" (spF (RCell K)) [] := by
  refine calF F b sc_Lcell (fun vs H v h => ?_) (fun cdv A outer s H vs v E hr h => ?_)
  · obtain ⟨a, ns, k, rfl, _⟩ := h
    rfl
  · obtain ⟨a, ns, k, rfl, hS, hl, hk, rfl⟩ := h
    refine ⟨_, (pss_cons (ps_set (i := 2) sc_Lcell.nd rfl (Or.inl rfl) (pe_op op_add (pe_op op_mul pe_int (pv 1)) pe_int))
  (pss_cons (ps_if (pt_cmpR (op_neD hr.units) (pv 0) (pe_lst pa_nil) (nomark _))
    (pss_cons (ps_set (i := 2) sc_Lcell.nd rfl (Or.inl rfl) (pe_op op_add (pe_op op_add (pv 2) (pe_op op_mul (pe_ix ix_list (pv 0) (pe_op op_mod (pv 1) (pe_callB call_len_seq (by rfl) T.b_len boot_len (pa_cons (pv 0) pa_nil))) (fun _ _ => rfl)) pe_int)) (pe_op op_mul pe_int (pv 1))))
    (pss_one (ps_set (i := 2) sc_Lcell.nd rfl (Or.inl rfl) (pe_op op_add (pv 2) (pe_op op_mul (pe_op op_fdiv (pv 1) (pe_callB call_len_seq (by rfl) T.b_len boot_len (pa_cons (pv 0) pa_nil))) pe_int)))))
    pss_nil)
  (pss_cons (ps_set (i := 3) sc_Lcell.nd rfl (Or.inl rfl) (pe_op op_mod (pv 2) pe_int))
  (pss_cons (ps_set (i := 3) sc_Lcell.nd rfl (Or.inl rfl) (pe_op op_mod (pe_op op_mul (pv 3) (pv 3)) pe_int))
  (pss_one (ps_ret (pe_op op_mod (pe_op op_add (pe_op op_add (pe_op op_mul (pv 3) (pv 3)) (pe_op op_mul pe_int (pv 3))) (pv 1)) pe_int))))))), ?_⟩
    have m1 : ∀ c : Int, 0 ≤ c % 2147483647 ∧ c % 2147483647 < 2147483647 := fun c => ⟨Int.emod_nonneg _ (by decide), Int.emod_lt_of_pos _ (by decide)⟩
    have m2 : ∀ c : Int, 0 ≤ c % 2147483629 ∧ c % 2147483629 < 2147483629 := fun c => ⟨Int.emod_nonneg _ (by decide), Int.emod_lt_of_pos _ (by decide)⟩
    refine rt_seq (nx_asg (v := .int (7919 * k + 11)) (by walk_at "tk_ev")) ?_
    refine rt_seq (σ' := [some (.ref a), some (.int k), some (.int (if ns = [] then 7919 * k + 11 else 7919 * k + 11 + ns.getD (k % (ns.length : Int)).toNat 0 * 48271 + 96810 * k + k / (ns.length : Int) * 7919)), none]) (nx_if (et_test (ev_neNil (ev_var rfl) hS)) (fun hb => ?_) (fun hb => ?_)) ?_
    · have hne : ns ≠ [] := by simpa using hb
      rw [if_neg hne]
      have hp : 0 < (ns.length : Int) := by
        have := List.length_pos_iff.mpr hne
        omega
      have q0 : 0 ≤ k % (ns.length : Int) := Int.emod_nonneg _ (by omega)
      have q1 : k % (ns.length : Int) < (ns.length : Int) := Int.emod_lt_of_pos _ hp
      refine nx_seq (nx_asg (v := .int (7919 * k + 11 + ns.getD (k % (ns.length : Int)).toNat 0 * 48271 + 96810 * k)) ?_) (nx_asg (v := .int (7919 * k + 11 + ns.getD (k % (ns.length : Int)).toNat 0 * 48271 + 96810 * k + k / (ns.length : Int) * 7919)) ?_)
      · walk_at "tk_ev"
      · walk_at "tk_ev"
    · have hne : ns = [] := by simpa using hb
      rw [if_pos hne]
      exact nx_next
    · unfold cellV
      generalize (if ns = [] then 7919 * k + 11 else 7919 * k + 11 + ns.getD (k % (ns.length : Int)).toNat 0 * 48271 + 96810 * k + k / (ns.length : Int) * 7919) = c at *
      have c1 := m1 c
      have c2 := m2 (c % 2147483647 * (c % 2147483647))
      walk_at "tk_ev"
end
/-! the law's draws: a scale, a bound, a gap, a cost -/
inductive Bd
  | jar (size flow : Int)
  | win (most span : Int)
def Bd.cap : Bd → Int
  | .jar s _ => s
  | .win m _ => m
def Bd.two : Bd → Int
  | .jar _ f => f
  | .win _ s => s
def Bd.tup : Bd → List V
  | .jar s f => [.str "jar", .int s, .int f]
  | .win m s => [.str "window", .int m, .int s]
def scaleV (c : Int) : Int := ([1, 1, 1000, 1000000, 40000000] : List Int).getD (c % 5).toNat 0
def boundV (c sc : Int) : Bd :=
  if c % 2 = 0 then .jar ((1 + c / 24 % 20) * sc) (min (([0, 1, 2, 3, 1, 2] : List Int).getD (c / 2 % 6).toNat 0 * ([1, sc] : List Int).getD (c / 12 % 2).toNat 0) 1000000000)
  else .win ((1 + c / 2 % 20) * sc + c / 40 % 2) (1 + c / 80 % ([6, 40] : List Int).getD (c / 3200 % 2).toNat 0)
def gapV (c : Int) : Int := ([0, 0, 1, 1, 2, 3, c / 10 % 9, c / 10 % 60, 0, c / 10 % 1000000] : List Int).getD (c % 10).toNat 0
def costV (c sc : Int) : Int := min 1000000000 (([1 + c % 6, 1, 1 + c / 3 % 20] : List Int).getD (c / 60 % 3).toNat 0 * sc + c / 180 % 2 * (sc / 2))
theorem scale_in (c : Int) : 1 ≤ scaleV c ∧ scaleV c ≤ 40000000 := getD_in _ _ (by decide) (by simp only [List.length_cons, List.length_nil]; omega)
theorem gap_in (c : Int) (h : 0 ≤ c) : 0 ≤ gapV c ∧ gapV c ≤ 1000000 := getD_in _ _ (by
  intro x hx
  simp only [List.mem_cons, List.not_mem_nil, or_false] at hx
  omega) (by simp only [List.length_cons, List.length_nil]; omega)
theorem cost_in {c sc : Int} (h : 0 ≤ c) (h1 : 1 ≤ sc) (h2 : sc ≤ 40000000) : 1 ≤ costV c sc ∧ costV c sc ≤ 1000000000 := by
  have z : 1 ≤ ([1 + c % 6, 1, 1 + c / 3 % 20] : List Int).getD (c / 60 % 3).toNat 0 ∧ ([1 + c % 6, 1, 1 + c / 3 % 20] : List Int).getD (c / 60 % 3).toNat 0 ≤ 20 := getD_in _ _ (by
    intro x hx
    simp only [List.mem_cons, List.not_mem_nil, or_false] at hx
    omega) (by simp only [List.length_cons, List.length_nil]; omega)
  unfold costV
  generalize ([1 + c % 6, 1, 1 + c / 3 % 20] : List Int).getD (c / 60 % 3).toNat 0 = m at z ⊢
  have a : 1 ≤ m * sc := by
    have := Int.mul_le_mul z.1 h1 (by decide) (by omega)
    omega
  have b : 0 ≤ c / 180 % 2 * (sc / 2) := Int.mul_nonneg (by omega) (by omega)
  omega
theorem bound_in {c sc : Int} (h : 0 ≤ c) (h1 : 1 ≤ sc) (h2 : sc ≤ 40000000) : 1 ≤ (boundV c sc).cap ∧ (boundV c sc).cap ≤ 1000000000 ∧ 0 ≤ (boundV c sc).two ∧ (boundV c sc).two ≤ 1000000000 ∧ (∀ m s, boundV c sc = .win m s → 1 ≤ s) := by
  have k : ∀ x : Int, 1 ≤ x → x ≤ 20 → 1 ≤ x * sc ∧ x * sc ≤ 800000000 := fun x a b => by
    have u := Int.mul_le_mul a h1 (by decide) (by omega)
    have w := Int.mul_le_mul b h2 (by omega) (by decide)
    omega
  unfold boundV
  by_cases hc : c % 2 = 0
  · rw [if_pos hc]
    have a := k (1 + c / 24 % 20) (by omega) (by omega)
    have d1 : 0 ≤ ([0, 1, 2, 3, 1, 2] : List Int).getD (c / 2 % 6).toNat 0 ∧ ([0, 1, 2, 3, 1, 2] : List Int).getD (c / 2 % 6).toNat 0 ≤ 3 := getD_in _ _ (by decide) (by simp only [List.length_cons, List.length_nil]; omega)
    have d2 : 1 ≤ ([1, sc] : List Int).getD (c / 12 % 2).toNat 0 ∧ ([1, sc] : List Int).getD (c / 12 % 2).toNat 0 ≤ 40000000 := getD_in _ _ (by
      intro x hx
      simp only [List.mem_cons, List.not_mem_nil, or_false] at hx
      omega) (by simp only [List.length_cons, List.length_nil]; omega)
    have d3 := Int.mul_nonneg d1.1 (show 0 ≤ ([1, sc] : List Int).getD (c / 12 % 2).toNat 0 by omega)
    exact ⟨a.1, Int.le_trans a.2 (by decide), by show 0 ≤ min _ _; omega, by show min _ _ ≤ _; omega, fun m s e => by cases e⟩
  · rw [if_neg hc]
    have a := k (1 + c / 2 % 20) (by omega) (by omega)
    have d1 : 6 ≤ ([6, 40] : List Int).getD (c / 3200 % 2).toNat 0 ∧ ([6, 40] : List Int).getD (c / 3200 % 2).toNat 0 ≤ 40 := getD_in _ _ (by decide) (by simp only [List.length_cons, List.length_nil]; omega)
    generalize ([6, 40] : List Int).getD (c / 3200 % 2).toNat 0 = q at d1 ⊢
    have e0 := Int.emod_nonneg (c / 80) (show q ≠ 0 by omega)
    have e1 := Int.emod_lt_of_pos (c / 80) (show 0 < q by omega)
    exact ⟨by show 1 ≤ (1 + c / 2 % 20) * sc + c / 40 % 2; omega, by show (1 + c / 2 % 20) * sc + c / 40 % 2 ≤ _; omega, by show 0 ≤ 1 + c / 80 % q; omega, by show 1 + c / 80 % q ≤ _; omega, fun m s e => by cases e; omega⟩
/-- of one number, of two -/
def R1 (D : Int → Prop) (f : Int → Int) (vs : List V) (_ : Hp) (v : V) : Prop := ∃ c, vs = [.int c] ∧ D c ∧ v = .int (f c)
def R2' (D : Int → Int → Prop) (f : Int → Int → Int) (vs : List V) (_ : Hp) (v : V) : Prop := ∃ c d, vs = [.int c, .int d] ∧ D c d ∧ v = .int (f c d)
def RBound (vs : List V) (_ : Hp) (W : V → Hp → Prop) : Prop := ∃ c sc, vs = [.int c, .int sc] ∧ 0 ≤ c ∧ 1 ≤ sc ∧ sc ≤ 40000000 ∧ W = fun v H1 => ∃ p, v = .ref p ∧ H1 p = some (.tup (boundV c sc).tup)
section
variable {P : Program} {w : World} {K : PySem.W.Frag} {mg : Str → Option Value} {base : Heap}
theorem cal_Lscale {f : Addr} {fd : FuncData} (F : C8.Def K mg "_law_scale" s_Lscale f fd) (b : Binds K fd ["_law_cell_here"] []) : C8.Cal P w K mg base 1 "_law_scale" (spF (R1 (fun c => 0 ≤ c) scaleV)) [] := by
  refine calF F b sc_Lscale (fun vs H v h => ?_) (fun cdv A outer s H vs v E hr h => ?_)
  · obtain ⟨c, rfl, _⟩ := h
    rfl
  · obtain ⟨c, rfl, hc, rfl⟩ := h
    refine ⟨_, (pss_one (ps_ret (pe_ix ix_list (pe_lst (pa_cons pe_int (pa_cons pe_int (pa_cons pe_int (pa_cons (pe_op op_pow pe_int pe_int) (pa_cons (pe_op op_mul pe_int (pe_op op_pow pe_int pe_int)) pa_nil)))))) (pe_op op_mod (pv 0) pe_int) (fun _ _ => rfl)))), ?_⟩
    unfold scaleV
    walk_at "tk_ev"
theorem cal_Lgap {f : Addr} {fd : FuncData} (F : C8.Def K mg "_law_gap" s_Lgap f fd) (b : Binds K fd ["_law_cell_here"] []) : C8.Cal P w K mg base 1 "_law_gap" (spF (R1 (fun c => 0 ≤ c) gapV)) [] := by
  refine calF F b sc_Lgap (fun vs H v h => ?_) (fun cdv A outer s H vs v E hr h => ?_)
  · obtain ⟨c, rfl, _⟩ := h
    rfl
  · obtain ⟨c, rfl, hc, rfl⟩ := h
    refine ⟨_, (pss_one (ps_ret (pe_ix ix_list (pe_lst (pa_cons pe_int (pa_cons pe_int (pa_cons pe_int (pa_cons pe_int (pa_cons pe_int (pa_cons pe_int (pa_cons (pe_op op_mod (pe_op op_fdiv (pv 0) pe_int) pe_int) (pa_cons (pe_op op_mod (pe_op op_fdiv (pv 0) pe_int) pe_int) (pa_cons pe_int (pa_cons (pe_op op_mod (pe_op op_fdiv (pv 0) pe_int) (pe_op op_pow pe_int pe_int)) pa_nil))))))))))) (pe_op op_mod (pv 0) pe_int) (fun _ _ => rfl)))), ?_⟩
    unfold gapV
    walk_at "tk_ev"
theorem cal_Lcost {f : Addr} {fd : FuncData} (T : Blt mg) (F : C8.Def K mg "_law_cost" s_Lcost f fd) (b : Binds K fd ["_law_cell_here", "_law_scale_here"] []) : C8.Cal P w K mg base 1 "_law_cost" (spF (R2' (fun c sc => 0 ≤ c ∧ 1 ≤ sc ∧ sc ≤ 40000000) costV)) [] := by
  refine calF F b sc_Lcost (fun vs H v h => ?_) (fun cdv A outer s H vs v E hr h => ?_)
  · obtain ⟨c, d, rfl, _⟩ := h
    rfl
  · obtain ⟨c, sc, rfl, hc, rfl⟩ := h
    refine ⟨_, (pss_cons (ps_set (i := 2) sc_Lcost.nd rfl (Or.inl rfl) (pe_ix ix_list (pe_lst (pa_cons (pe_op op_add pe_int (pe_op op_mod (pv 0) pe_int)) (pa_cons pe_int (pa_cons (pe_op op_add pe_int (pe_op op_mod (pe_op op_fdiv (pv 0) pe_int) pe_int)) pa_nil)))) (pe_op op_mod (pe_op op_fdiv (pv 0) pe_int) pe_int) (fun _ _ => rfl)))
  (pss_one (ps_ret (pe_callB (call_min2 rfl) (by rfl) T.b_min boot_min (pa_cons (pe_op op_pow pe_int pe_int) (pa_cons (pe_op op_add (pe_op op_mul (pv 2) (pv 1)) (pe_op op_mul (pe_op op_mod (pe_op op_fdiv (pv 0) pe_int) pe_int) (pe_op op_fdiv (pv 1) pe_int))) pa_nil)))))), ?_⟩
    unfold costV
    walk_at "tk_ev"
theorem cal_Lbound {f : Addr} {fd : FuncData} (T : Blt mg) (F : C8.Def K mg "_law_bound" s_Lbound f fd) (b : Binds K fd ["_law_cell_here", "_law_scale_here"] []) : C8.Cal P w K mg base 1 "_law_bound" (spW RBound) [] := by
  refine calW F b sc_Lbound (fun vs H v h => ?_) (fun cdv A outer s H vs W E hr h => ?_)
  · obtain ⟨c, d, rfl, _⟩ := h
    rfl
  · obtain ⟨c, sc, rfl, hc, h1, h2, rfl⟩ := h
    refine ⟨_, (pss_cons (ps_if (pt_cmpR op_eq (pe_op op_mod (pv 0) pe_int) pe_int (nomark _))
    (pss_cons (ps_set (i := 2) sc_Lbound.nd rfl (Or.inl rfl) (pe_op op_mul (pe_ix ix_list (pe_lst (pa_cons pe_int (pa_cons pe_int (pa_cons pe_int (pa_cons pe_int (pa_cons pe_int (pa_cons pe_int pa_nil))))))) (pe_op op_mod (pe_op op_fdiv (pv 0) pe_int) pe_int) (fun _ _ => rfl)) (pe_ix ix_list (pe_lst (pa_cons pe_int (pa_cons (pv 1) pa_nil))) (pe_op op_mod (pe_op op_fdiv (pv 0) pe_int) pe_int) (fun _ _ => rfl))))
    (pss_one (ps_ret (pe_tup (pa_cons pe_str (pa_cons (pe_op op_mul (pe_op op_add pe_int (pe_op op_mod (pe_op op_fdiv (pv 0) pe_int) pe_int)) (pv 1)) (pa_cons (pe_callB (call_min2 rfl) (by rfl) T.b_min boot_min (pa_cons (pv 2) (pa_cons (pe_op op_pow pe_int pe_int) pa_nil))) pa_nil)))))))
    pss_nil)
  (pss_one (ps_ret (pe_tup (pa_cons pe_str (pa_cons (pe_op op_add (pe_op op_mul (pe_op op_add pe_int (pe_op op_mod (pe_op op_fdiv (pv 0) pe_int) pe_int)) (pv 1)) (pe_op op_mod (pe_op op_fdiv (pv 0) pe_int) pe_int)) (pa_cons (pe_op op_add pe_int (pe_op op_mod (pe_op op_fdiv (pv 0) pe_int) (pe_ix ix_list (pe_lst (pa_cons pe_int (pa_cons pe_int pa_nil))) (pe_op op_mod (pe_op op_fdiv (pv 0) pe_int) pe_int) (fun _ _ => rfl)))) pa_nil))))))), ?_⟩
    have d2 : 1 ≤ ([1, sc] : List Int).getD (c / 12 % 2).toNat 0 ∧ ([1, sc] : List Int).getD (c / 12 % 2).toNat 0 ≤ 40000000 := getD_in _ _ (by
      intro x hx
      simp only [List.mem_cons, List.not_mem_nil, or_false] at hx
      omega) (by simp only [List.length_cons, List.length_nil]; omega)
    have d1 : 6 ≤ ([6, 40] : List Int).getD (c / 3200 % 2).toNat 0 ∧ ([6, 40] : List Int).getD (c / 3200 % 2).toNat 0 ≤ 40 := getD_in _ _ (by decide) (by simp only [List.length_cons, List.length_nil]; omega)
    apply rtw_ifseq
    · walk_at "tk_ev"
    · intro hb
      have hc2 : c % 2 = 0 := by simpa using hb
      simp only [boundV, if_pos hc2, Bd.tup]
      walk_at "tk_ev"
      apply evw_tup
      walk_at "tk_ev"
    · intro hb
      have hc2 : ¬ c % 2 = 0 := by simpa using hb
      simp only [boundV, if_neg hc2, Bd.tup]
      walk_at "tk_ev"
      apply evw_tup
      walk_at "tk_ev"
end
/-! the jar's meter -/
structure ClJM (K : PySem.W.Frag) (C : Addr) : Prop where
  cl : Cls K C
  n1 : NoAttr K C "_size"
  n2 : NoAttr K C "_flow"
  n3 : NoAttr K C "_level"
  n4 : NoAttr K C "_moment"
def opV : Option Int → V
  | none => .non
  | some i => .int i
def fJM (s f l : Int) (m : Option Int) : List (Str × V) := [("_size", .int s), ("_flow", .int f), ("_level", .int l), ("_moment", opV m)]
structure JOk (s f l : Int) (m : Option Int) : Prop where
  f0 : 0 ≤ f
  f1 : f ≤ 1000000000
  mm : l ≠ 0 → ∃ i, m = some i
def levV (f l : Int) (m : Option Int) (t : Int) : Int := if l = 0 then 0 else max 0 (l - f * (t - m.getD 0))
def waitJ (s f l : Int) (m : Option Int) (t c : Int) : Option Int :=
  if c > s then none else if levV f l m t + c - s ≤ 0 then some 0 else if f = 0 then none else some ((levV f l m t + c - s + f - 1) / f)
def RLev (C : Addr) (vs : List V) (H : Hp) (v : V) : Prop := ∃ x dx s f l m t, vs = [.ref x, .int t] ∧ H x = some (.ins C dx (fJM s f l m)) ∧ JOk s f l m ∧ v = .int (levV f l m t)
def RCanJ (C : Addr) (vs : List V) (H : Hp) (v : V) : Prop := ∃ x dx s f l m t c, vs = [.ref x, .int t, .int c] ∧ H x = some (.ins C dx (fJM s f l m)) ∧ JOk s f l m ∧ v = .bl (decide (levV f l m t + c ≤ s))
def RWaitJ (C : Addr) (vs : List V) (H : Hp) (v : V) : Prop := ∃ x dx s f l m t c, vs = [.ref x, .int t, .int c] ∧ H x = some (.ins C dx (fJM s f l m)) ∧ JOk s f l m ∧ v = opV (waitJ s f l m t c)
def RKeptJ (C : Addr) (vs : List V) (H : Hp) (v : V) : Prop := ∃ x dx fs, vs = [.ref x] ∧ H x = some (.ins C dx fs) ∧ v = .int 0
theorem rLev {C x dx : Addr} {s f l t : Int} {m : Option Int} {H : Hp} (hx : H x = some (.ins C dx (fJM s f l m))) (j : JOk s f l m) : ∀ H1, Ex H H1 → RLev C [.ref x, .int t] H1 (.int (levV f l m t)) := fun H1 e => ⟨x, dx, s, f, l, m, t, rfl, e _ _ hx, j, rfl⟩
def spTakeJ (C : Addr) : Sp := fun vs H Q _ => ∃ x dx s f l m t c, vs = [.ref x, .int t, .int c] ∧ H x = some (.ins C dx (fJM s f l m)) ∧ JOk s f l m ∧ ∀ H1, Ex H H1 → Q .non (upd H1 x (.ins C dx (fJM s f (levV f l m t + c) (some t))))
def JInitJM (C : Addr) (as : List V) (x dx : Addr) (H : Hp) : Prop := ∃ s f, as = [.int s, .int f] ∧ H x = some (.ins C dx (fJM s f 0 none))
section
variable {P : Program} {w : World} {K : PySem.W.Frag} {mg : Str → Option Value} {base : Heap} {C : Addr}
theorem met_JarMeter__level_at {f : Addr} {fd : FuncData} (T : Blt mg) (k : ClJM K C) (me : Meth K C "_level_at" f) (F : C8.Fun K "_level_at" "JarMeter._level_at" s_JarMeter__level_at f fd) (b : Binds K fd ["self", "moment"] []) : C8.Met P w K mg base 1 C "_level_at" (spF (RLev C)) [] := by
  obtain ⟨cl, n1, n2, n3, n4⟩ := k
  refine metF cl me F b sc_JarMeter__level_at (fun vs H v h => ?_) (fun cdv A outer s H vs v E hr h => ?_)
  · obtain ⟨x, dx, s, f, l, m, t, rfl, _⟩ := h
    rfl
  · obtain ⟨x, dx, s, f, l, m, t, rfl, hx, j, rfl⟩ := h
    refine ⟨_, (pss_cons (ps_if (pt_cmpR op_eq (pe_fld (pv 0) rfl) pe_int (nomark _))
    (pss_one (ps_ret pe_int))
    pss_nil)
  (pss_one (ps_ret (pe_callB (call_max2 rfl) (by rfl) T.b_max boot_max (pa_cons pe_int (pa_cons (pe_op op_sub (pe_fld (pv 0) rfl) (pe_op op_mul (pe_fld (pv 0) rfl) (pe_op op_sub (pv 1) (pe_fld (pv 0) rfl)))) pa_nil)))))), ?_⟩
    have j0 := j.f0
    have j1 := j.f1
    apply rt_ifseq
    · walk_at "tk_ev"
    · intro hb
      have h0 : l = 0 := by simpa using hb
      unfold levV
      rw [if_pos h0]
      walk_at "tk_ev"
    · intro hb
      have h0 : ¬ l = 0 := by simpa using hb
      obtain ⟨i, rfl⟩ := j.mm h0
      unfold levV
      rw [if_neg h0]
      walk_at "tk_ev"
local macro_rules | `(tactic| walk_at "tk_R") => `(tactic| exact rLev (by assumption) (by assumption))
theorem met_JarMeter_can {f : Addr} {fd : FuncData} (k : ClJM K C) (t_JarMeter__level_at : C8.Met P w K mg base 1 C "_level_at" (spF (RLev C)) []) (me : Meth K C "can" f) (F : C8.Fun K "can" "JarMeter.can" s_JarMeter_can f fd) (b : Binds K fd ["self", "moment", "cost"] []) : C8.Met P w K mg base 2 C "can" (spF (RCanJ C)) [] := by
  obtain ⟨cl, n1, n2, n3, n4⟩ := k
  refine metF cl me F b sc_JarMeter_can (fun vs H v h => ?_) (fun cdv A outer s H vs v E hr h => ?_)
  · obtain ⟨x, dx, s, f, l, m, t, c, rfl, _⟩ := h
    rfl
  · obtain ⟨x, dx, s, f, l, m, t, c, rfl, hx, j, rfl⟩ := h
    refine ⟨_, (pss_one (ps_ret (pe_cmpR op_le (pe_op op_add (C8.pe_mt t_JarMeter__level_at hr (by decide) (pv 0) (pa_cons (pv 1) pa_nil)) (pv 2)) (pe_fld (pv 0) rfl) (nomark _)))), ?_⟩
    walk_at "tk_ev"
theorem met_JarMeter_wait {f : Addr} {fd : FuncData} (k : ClJM K C) (t_JarMeter__level_at : C8.Met P w K mg base 1 C "_level_at" (spF (RLev C)) []) (me : Meth K C "wait" f) (F : C8.Fun K "wait" "JarMeter.wait" s_JarMeter_wait f fd) (b : Binds K fd ["self", "moment", "cost"] []) : C8.Met P w K mg base 2 C "wait" (spF (RWaitJ C)) [] := by
  obtain ⟨cl, n1, n2, n3, n4⟩ := k
  refine metF cl me F b sc_JarMeter_wait (fun vs H v h => ?_) (fun cdv A outer s H vs v E hr h => ?_)
  · obtain ⟨x, dx, s, f, l, m, t, c, rfl, _⟩ := h
    rfl
  · obtain ⟨x, dx, s, f, l, m, t, c, rfl, hx, j, rfl⟩ := h
    have j0 := j.f0
    have j1 := j.f1
    refine ⟨_, (pss_cons (ps_if (pt_cmpR op_gt (pv 2) (pe_fld (pv 0) rfl) (nomark _))
    (pss_one (ps_ret pe_non))
    pss_nil)
  (pss_cons (ps_set (i := 3) sc_JarMeter_wait.nd rfl (Or.inl rfl) (pe_op op_sub (pe_op op_add (C8.pe_mt t_JarMeter__level_at hr (by decide) (pv 0) (pa_cons (pv 1) pa_nil)) (pv 2)) (pe_fld (pv 0) rfl)))
  (pss_cons (ps_if (pt_cmpR op_le (pv 3) pe_int (nomark _))
    (pss_one (ps_ret pe_int))
    pss_nil)
  (pss_cons (ps_if (pt_cmpR op_eq (pe_fld (pv 0) rfl) pe_int (nomark _))
    (pss_one (ps_ret pe_non))
    pss_nil)
  (pss_one (ps_ret (pe_op op_fdiv (pe_op op_sub (pe_op op_add (pv 3) (pe_fld (pv 0) rfl)) pe_int) (pe_fld (pv 0) rfl)))))))), ?_⟩
    unfold waitJ
    apply rt_ifseq
    · walk_at "tk_ev"
    · intro hb
      have h1 : c > s := by simpa using hb
      rw [if_pos h1]
      walk_at "tk_ev"
    · intro hb
      have h1 : ¬ c > s := by simpa using hb
      rw [if_neg h1]
      refine rt_seq (nx_asg (v := .int (levV f l m t + c - s)) (by walk_at "tk_ev")) ?_
      apply rt_ifseq
      · walk_at "tk_ev"
      · intro hb
        have h2 : levV f l m t + c - s ≤ 0 := by simpa using hb
        rw [if_pos h2]
        walk_at "tk_ev"
      · intro hb
        have h2 : ¬ levV f l m t + c - s ≤ 0 := by simpa using hb
        rw [if_neg h2]
        apply rt_ifseq
        · walk_at "tk_ev"
        · intro hb
          have h3 : f = 0 := by simpa using hb
          rw [if_pos h3]
          walk_at "tk_ev"
        · intro hb
          have h3 : ¬ f = 0 := by simpa using hb
          rw [if_neg h3]
          walk_at "tk_ev"
theorem met_JarMeter_kept {f : Addr} {fd : FuncData} (k : ClJM K C) (me : Meth K C "kept" f) (F : C8.Fun K "kept" "JarMeter.kept" s_JarMeter_kept f fd) (b : Binds K fd ["self"] []) : C8.Met P w K mg base 1 C "kept" (spF (RKeptJ C)) [] := by
  refine metF k.cl me F b sc_JarMeter_kept (fun vs H v h => ?_) (fun cdv A outer s H vs v E hr h => ?_)
  · obtain ⟨x, dx, fs, rfl, _⟩ := h
    rfl
  · obtain ⟨x, dx, fs, rfl, hx, rfl⟩ := h
    refine ⟨_, (pss_one (ps_ret pe_int)), ?_⟩
    walk_at "tk_ev"
theorem met_JarMeter_take {f : Addr} {fd : FuncData} (k : ClJM K C) (t_JarMeter__level_at : C8.Met P w K mg base 1 C "_level_at" (spF (RLev C)) []) (me : Meth K C "take" f) (F : C8.Fun K "take" "JarMeter.take" s_JarMeter_take f fd) (b : Binds K fd ["self", "moment", "cost"] []) : C8.Met P w K mg base 2 C "take" (spTakeJ C) [] := by
  obtain ⟨cl, n1, n2, n3, n4⟩ := k
  refine C8.met0 cl me F b sc_JarMeter_take (fun vs H Q E h => ?_) (fun cdv A outer s H vs Q E hr h => ?_)
  · obtain ⟨x, dx, s, f, l, m, t, c, rfl, _⟩ := h
    rfl
  · obtain ⟨x, dx, s, f, l, m, t, c, rfl, hx, j, q⟩ := h
    refine ⟨_, (pss_cons (ps_fld (pv 0) (pe_op op_add (C8.pe_mt t_JarMeter__level_at hr (by decide) (pv 0) (pa_cons (pv 1) pa_nil)) (pv 2)) rfl)
  (pss_one (ps_fld (pv 0) (pv 1) rfl))), ?_⟩
    have e1 : Ev (tOp (rI0 fun i j => V.int (i + j)) (tMeth C "_level_at" (spF (RLev C)) [] C8.E0 (tVar 0) (tCons (tVar 1) tNil)) (tVar 2)) (start ["self", "moment", "cost"] [.ref x, .int t, .int c]) H (.int (levV f l m t + c)) := by walk_at "tk_ev"
    refine e1 H (Ex.refl H) _ fun H1 g1 => ?_
    refine ⟨_, rfl, x, C, dx, _, rfl, g1 _ _ hx, cl, n3, by show 4 < 1000; decide, ?_⟩
    refine ⟨_, rfl, _, rfl, x, C, dx, _, rfl, upd_same, cl, n4, by show 4 < 1000; decide, ?_⟩
    have z : upd (upd H1 x (.ins C dx (putF "_level" (.int (levV f l m t + c)) (fJM s f l m)))) x (.ins C dx (putF "_moment" (.int t) (putF "_level" (.int (levV f l m t + c)) (fJM s f l m)))) = upd H1 x (.ins C dx (fJM s f (levV f l m t + c) (some t))) := by
      funext b
      by_cases hb : b = x
      · rw [hb, upd_same, upd_same]
        rfl
      · rw [upd_ne hb, upd_ne hb, upd_ne hb]
    show Q .non (upd (upd H1 x _) x _)
    rw [z]
    exact q H1 g1
theorem mak_JarMeter {f : Addr} {fd : FuncData} (k : ClJM K C) (M : Mk K C f) (hm : mg "JarMeter" = some (.ref C)) (F : C8.Fun K "__init__" "JarMeter.__init__" s_JarMeter_init f fd) (b : Binds K fd ["self", "size", "flow"] []) : C8.Mak P w K mg base 1 "JarMeter" C (spI C (fun as => ∃ s f : Int, as = [.int s, .int f]) (JInitJM C)) [] := by
  obtain ⟨cl, n1, n2, n3, n4⟩ := k
  refine C8.mak0 M hm F b .nil sc_JarMeter_init (fun vs H Q E h => ?_) (fun cdv A outer s H vs Q E hr h => ?_)
  · obtain ⟨x, dx, as, rfl, _, ⟨s, f, rfl⟩, _⟩ := h
    rfl
  · obtain ⟨x, dx, as, rfl, hx, ⟨s, f, rfl⟩, q⟩ := h
    refine ⟨_, (pss_cons (ps_fld (pv 0) (pv 1) rfl)
  (pss_cons (ps_fld (pv 0) (pv 2) rfl)
  (pss_cons (ps_fld (pv 0) pe_int rfl)
  (pss_one (ps_fld (pv 0) pe_non rfl))))), ?_⟩
    refine ⟨_, rfl, _, rfl, x, C, dx, _, rfl, hx, cl, n1, by show 0 < 1000; decide, ?_⟩
    refine ⟨_, rfl, _, rfl, x, C, dx, _, rfl, upd_same, cl, n2, by show 1 < 1000; decide, ?_⟩
    refine ⟨_, rfl, x, C, dx, _, rfl, upd_same, cl, n3, by show 2 < 1000; decide, ?_⟩
    refine ⟨_, rfl, x, C, dx, _, rfl, upd_same, cl, n4, by show 3 < 1000; decide, ?_⟩
    refine q _ (fun b o hb e => ?_) ⟨s, f, rfl, upd_same⟩
    rw [upd_ne hb, upd_ne hb, upd_ne hb, upd_ne hb]
    exact e
end
/-! the window's meter -/
structure ClWM (K : PySem.W.Frag) (C : Addr) : Prop where
  cl : Cls K C
  n1 : NoAttr K C "_most"
  n2 : NoAttr K C "_span"
  n3 : NoAttr K C "_rows"
  n4 : NoAttr K C "_gone"
  n5 : NoAttr K C "_total"
def fWM (m s : Int) (l : Addr) (g t : Int) : List (Str × V) := [("_most", .int m), ("_span", .int s), ("_rows", .ref l), ("_gone", .int g), ("_total", .int t)]
/-- the first row whose total is no less -/
def firstGe (rs : List (Int × Int)) (due : Int) : Nat := rs.findIdx fun q => decide (due ≤ q.2)
def MonoT (rs : List (Int × Int)) : Prop := ∀ i j : Nat, i ≤ j → j < rs.length → (rs.getD i (0, 0)).2 ≤ (rs.getD j (0, 0)).2
structure WOk (g tot : Int) (rs : List (Int × Int)) : Prop where
  mono : MonoT rs
  nil : rs = [] → tot ≤ g
  last : rs ≠ [] → tot ≤ (rs.getD (rs.length - 1) (0, 0)).2
  len : rs.length ≤ 1000
def waitW (m s g tot : Int) (rs : List (Int × Int)) (t c : Int) : Option Int :=
  if c > m then none else if tot + c - m ≤ g then some 0 else some (max 0 ((rs.getD (firstGe rs (tot + c - m)) (0, 0)).1 + s - t))
theorem firstGe_lt {rs : List (Int × Int)} {due : Int} (h : rs ≠ []) (hl : due ≤ (rs.getD (rs.length - 1) (0, 0)).2) : firstGe rs due < rs.length := by
  unfold firstGe
  have hp := List.length_pos_iff.mpr h
  refine List.findIdx_lt_length_of_exists ⟨rs[rs.length - 1], List.getElem_mem _, ?_⟩
  rw [List.getD_eq_getElem?_getD, List.getElem?_eq_getElem (by omega)] at hl
  exact decide_eq_true hl
theorem firstGe_ge {rs : List (Int × Int)} {due : Int} (h : firstGe rs due < rs.length) : due ≤ (rs.getD (firstGe rs due) (0, 0)).2 := by
  have z := List.findIdx_getElem (xs := rs) (p := fun q : Int × Int => decide (due ≤ q.2)) (w := h)
  rw [List.getD_eq_getElem?_getD, List.getElem?_eq_getElem h]
  exact of_decide_eq_true z
theorem firstGe_before {rs : List (Int × Int)} {due : Int} {i : Nat} (h : i < firstGe rs due) : (rs.getD i (0, 0)).2 < due := by
  have hi : i < rs.length := Nat.lt_of_lt_of_le h List.findIdx_le_length
  have z := List.not_of_lt_findIdx (xs := rs) (p := fun q => decide (due ≤ q.2)) h
  rw [List.getD_eq_getElem?_getD, List.getElem?_eq_getElem hi]
  have z2 : ¬ due ≤ (rs[i]).2 := of_decide_eq_false z
  show (rs[i]).2 < due
  omega
def RPlace (vs : List V) (H : Hp) (v : V) : Prop := ∃ l rs due, vs = [.ref l, .int due] ∧ PairsT H l rs ∧ MonoT rs ∧ firstGe rs due < rs.length ∧ rs.length ≤ 1000 ∧ v = .int (firstGe rs due : Nat)
def RWaitW (C : Addr) (vs : List V) (H : Hp) (v : V) : Prop := ∃ x dx m s l g tot rs t c, vs = [.ref x, .int t, .int c] ∧ H x = some (.ins C dx (fWM m s l g tot)) ∧ PairsT H l rs ∧ WOk g tot rs ∧ v = opV (waitW m s g tot rs t c)
def RCanW (C : Addr) (vs : List V) (H : Hp) (v : V) : Prop := ∃ x dx m s l g tot rs t c, vs = [.ref x, .int t, .int c] ∧ H x = some (.ins C dx (fWM m s l g tot)) ∧ PairsT H l rs ∧ WOk g tot rs ∧ v = .bl (decide (waitW m s g tot rs t c = some 0))
def RKeptW (C : Addr) (vs : List V) (H : Hp) (v : V) : Prop := ∃ x dx m s l g tot rs, vs = [.ref x] ∧ H x = some (.ins C dx (fWM m s l g tot)) ∧ PairsT H l rs ∧ v = .int (rs.length : Int)
section
variable {P : Program} {w : World} {K : PySem.W.Frag} {mg : Str → Option Value} {base : Heap} {C : Addr}
local macro_rules | `(tactic| walk_at "tk_len") => `(tactic| (with_reducible apply ev_lenP))
theorem cal_place_reaching {f : Addr} {fd : FuncData} (T : Blt mg) (F : C8.Def K mg "_place_reaching" s_place_reaching f fd) (b : Binds K fd ["rows", "total"] []) : C8.Cal P w K mg base 1 "_place_reaching" (spF RPlace) [] := by
  refine calF F b sc_place_reaching (fun vs H v h => ?_) (fun cdv A outer s H vs v E hr h => ?_)
  · obtain ⟨l, rs, due, rfl, _⟩ := h
    rfl
  · obtain ⟨l, rs, due, rfl, hP, hm, hF, hn, rfl⟩ := h
    refine ⟨_, (pss_cons (ps_set (i := 2) sc_place_reaching.nd rfl (Or.inl rfl) pe_int)
  (pss_cons (ps_set (i := 3) sc_place_reaching.nd rfl (Or.inl rfl) (pe_op op_sub (pe_callB call_len_seq (by rfl) T.b_len boot_len (pa_cons (pv 0) pa_nil)) pe_int))
  (pss_cons (ps_while PassesOwn.never (pt_cmpR op_lt (pv 2) (pv 3) (nomark _))
    (pss_cons (ps_set (i := 4) sc_place_reaching.nd rfl (Or.inl rfl) (pe_op op_fdiv (pe_op op_add (pv 2) (pv 3)) pe_int))
    (pss_one (ps_if (pt_cmpR op_lt (pe_ix ix_tup (pe_ix ix_list (pv 0) (pv 4) (fun _ _ => rfl)) pe_int (fun _ _ => rfl)) (pv 1) (nomark _))
      (pss_one (ps_set (i := 2) sc_place_reaching.nd rfl (Or.inl rfl) (pe_op op_add (pv 4) pe_int)))
      (pss_one (ps_set (i := 3) sc_place_reaching.nd rfl (Or.inl rfl) (pv 4)))))))
  (pss_one (ps_ret (pv 2)))))), ?_⟩
    have ge := firstGe_ge hF
    refine rt_seq (nx_asg (v := .int ((0 : Nat) : Int)) (by walk_at "tk_ev")) ?_
    refine rt_seq (nx_asg (v := .int ((rs.length : Int) - 1)) (by walk_at "tk_ev")) ?_
    refine rt_seqP (P := fun σ => ∃ (lo : Nat) (mid : Option V), σ = [some (.ref l), some (.int due), some (.int (lo : Int)), some (.int (lo : Int)), mid] ∧ lo = firstGe rs due) (nxp_while (fun σ => ∃ (lo hi : Nat) (mid : Option V), σ = [some (.ref l), some (.int due), some (.int (lo : Int)), some (.int (hi : Int)), mid] ∧ lo ≤ firstGe rs due ∧ firstGe rs due ≤ hi ∧ hi < rs.length)
      (fun σ => match σ with
        | [_, _, some (.int lo), some (.int hi), _] => (hi - lo).toNat
        | _ => 0) ?_ ?_) ?_
    · refine ⟨0, rs.length - 1, none, ?_, Nat.zero_le _, by omega, by omega⟩
      rw [show (((rs.length - 1 : Nat)) : Int) = (rs.length : Int) - 1 by omega]
      rfl
    · rintro σ ⟨lo, hi, mid, rfl, h1, h2, h3⟩
      refine ⟨decide ((lo : Int) < (hi : Int)), by walk_at "tk_ev", fun hb => ?_, fun hb => ?_⟩
      · have hlt : (lo : Int) < (hi : Int) := of_decide_eq_true hb
        have em : ((lo : Int) + (hi : Int)) / 2 = (((lo + hi) / 2 : Nat) : Int) := by omega
        refine nxp_seqP (nxp_of (nx_asg (v := .int (((lo + hi) / 2 : Nat) : Int)) ?_) (P := fun σ => σ = [some (.ref l), some (.int due), some (.int (lo : Int)), some (.int (hi : Int)), some (.int (((lo + hi) / 2 : Nat) : Int))]) rfl) ?_
        · rw [← em]
          walk_at "tk_ev"
        · rintro σ rfl
          have e2 : rs[(((lo + hi) / 2 : Nat) : Int).toNat]? = some (rs.getD ((lo + hi) / 2) (0, 0)) := by
            rw [Int.toNat_natCast]
            exact getD_some (by omega)
          refine nxp_if (b := decide ((rs.getD ((lo + hi) / 2) (0, 0)).2 < due)) ?_ (fun hc => ?_) (fun hc => ?_)
          · exact et_test (ev_op (ev_pair1 (ev_var rfl) (ev_var rfl) hP (by omega) e2) (ev_var rfl) rv_I0)
          · have hd := of_decide_eq_true hc
            have hf : (lo + hi) / 2 < firstGe rs due := by
              refine Nat.lt_of_not_le fun hle => ?_
              have := hm _ _ hle (show (lo + hi) / 2 < rs.length by omega)
              omega
            refine nxp_of (nx_asg (v := .int (((lo + hi) / 2 + 1 : Nat) : Int)) ?_) ⟨⟨(lo + hi) / 2 + 1, hi, _, rfl, by omega, h2, h3⟩, ?_⟩
            · rw [Int.natCast_add]
              walk_at "tk_ev"
            · show ((hi : Int) - (((lo + hi) / 2 + 1 : Nat) : Int)).toNat < ((hi : Int) - (lo : Int)).toNat
              omega
          · have hd := of_decide_eq_false hc
            have hf : firstGe rs due ≤ (lo + hi) / 2 := by
              refine Nat.le_of_not_lt fun hle => ?_
              have := firstGe_before hle
              omega
            refine nxp_of (nx_asg (v := .int (((lo + hi) / 2 : Nat) : Int)) ?_) ⟨⟨lo, (lo + hi) / 2, _, rfl, h1, hf, by omega⟩, ?_⟩
            · walk_at "tk_ev"
            · show ((((lo + hi) / 2 : Nat) : Int) - (lo : Int)).toNat < ((hi : Int) - (lo : Int)).toNat
              omega
      · have hge : ¬ (lo : Int) < (hi : Int) := of_decide_eq_false hb
        obtain rfl : lo = hi := by omega
        exact ⟨lo, mid, rfl, by omega⟩
    · rintro σ ⟨lo, mid, rfl, rfl⟩
      walk_at "tk_ev"
theorem met_WindowMeter_wait {f : Addr} {fd : FuncData} (T : Blt mg) (k : ClWM K C) (c_place_reaching : C8.Cal P w K mg base 1 "_place_reaching" (spF RPlace) []) (me : Meth K C "wait" f) (F : C8.Fun K "wait" "WindowMeter.wait" s_WindowMeter_wait f fd) (b : Binds K fd ["self", "moment", "cost"] []) : C8.Met P w K mg base 2 C "wait" (spF (RWaitW C)) [] := by
  obtain ⟨cl, n1, n2, n3, n4, n5⟩ := k
  refine metF cl me F b sc_WindowMeter_wait (fun vs H v h => ?_) (fun cdv A outer s H vs v E hr h => ?_)
  · obtain ⟨x, dx, m, s, l, g, tot, rs, t, c, rfl, _⟩ := h
    rfl
  · obtain ⟨x, dx, m, s, l, g, tot, rs, t, c, rfl, hx, hP, ok, rfl⟩ := h
    refine ⟨_, (pss_cons (ps_if (pt_cmpR op_gt (pv 2) (pe_fld (pv 0) rfl) (nomark _))
    (pss_one (ps_ret pe_non))
    pss_nil)
  (pss_cons (ps_set (i := 3) sc_WindowMeter_wait.nd rfl (Or.inl rfl) (pe_op op_sub (pe_op op_add (pe_fld (pv 0) rfl) (pv 2)) (pe_fld (pv 0) rfl)))
  (pss_cons (ps_if (pt_cmpR op_le (pv 3) (pe_fld (pv 0) rfl) (nomark _))
    (pss_one (ps_ret pe_int))
    pss_nil)
  (pss_cons (ps_set (i := 4) sc_WindowMeter_wait.nd rfl (Or.inl rfl) (pe_ix ix_tup (pe_ix ix_list (pe_fld (pv 0) rfl) (C8.pe_c c_place_reaching hr (by decide) rfl (pa_cons (pe_fld (pv 0) rfl) (pa_cons (pv 3) pa_nil))) (fun _ _ => rfl)) pe_int (fun _ _ => rfl)))
  (pss_one (ps_ret (pe_callB (call_max2 rfl) (by rfl) T.b_max boot_max (pa_cons pe_int (pa_cons (pe_op op_sub (pe_op op_add (pv 4) (pe_fld (pv 0) rfl)) (pv 1)) pa_nil))))))))), ?_⟩
    unfold waitW
    apply rt_ifseq
    · walk_at "tk_ev"
    · intro hb
      have h1 : c > m := by simpa using hb
      rw [if_pos h1]
      walk_at "tk_ev"
    · intro hb
      have h1 : ¬ c > m := by simpa using hb
      rw [if_neg h1]
      refine rt_seq (nx_asg (v := .int (tot + c - m)) (by walk_at "tk_ev")) ?_
      apply rt_ifseq
      · walk_at "tk_ev"
      · intro hb
        have h2 : tot + c - m ≤ g := by simpa using hb
        rw [if_pos h2]
        walk_at "tk_ev"
      · intro hb
        have h2 : ¬ tot + c - m ≤ g := by simpa using hb
        rw [if_neg h2]
        have hne : rs ≠ [] := fun z => by
          have := ok.nil z
          omega
        have hlt : firstGe rs (tot + c - m) < rs.length := firstGe_lt hne (by
          have := ok.last hne
          omega)
        have hR : ∀ H1, Ex H H1 → RPlace [.ref l, .int (tot + c - m)] H1 (.int (firstGe rs (tot + c - m) : Nat)) := fun H1 e => ⟨l, rs, _, rfl, hP.mono e, ok.mono, hlt, ok.len, rfl⟩
        refine rt_seq (nx_asg (v := .int (rs.getD (firstGe rs (tot + c - m)) (0, 0)).1) ?_) ?_
        · refine ev_pair0 (i := (firstGe rs (tot + c - m) : Nat)) (by walk_at "tk_ev") (ev_callF (by walk_at "tk_ev") hR) hP (by omega) ?_
          rw [Int.toNat_natCast]
          exact getD_some hlt
        · show Rt _ _ _ (.int (max 0 ((rs.getD (firstGe rs (tot + c - m)) (0, 0)).1 + s - t)))
          walk_at "tk_ev"
theorem met_WindowMeter_can {f : Addr} {fd : FuncData} (k : ClWM K C) (t_WindowMeter_wait : C8.Met P w K mg base 2 C "wait" (spF (RWaitW C)) []) (me : Meth K C "can" f) (F : C8.Fun K "can" "WindowMeter.can" s_WindowMeter_can f fd) (b : Binds K fd ["self", "moment", "cost"] []) : C8.Met P w K mg base 3 C "can" (spF (RCanW C)) [] := by
  obtain ⟨cl, n1, n2, n3, n4, n5⟩ := k
  refine metF cl me F b sc_WindowMeter_can (fun vs H v h => ?_) (fun cdv A outer s H vs v E hr h => ?_)
  · obtain ⟨x, dx, m, s, l, g, tot, rs, t, c, rfl, _⟩ := h
    rfl
  · obtain ⟨x, dx, m, s, l, g, tot, rs, t, c, rfl, hx, hP, ok, rfl⟩ := h
    refine ⟨_, (pss_one (ps_ret (pe_cmpR op_eq (C8.pe_mt t_WindowMeter_wait hr (by decide) (pv 0) (pa_cons (pv 1) (pa_cons (pv 2) pa_nil))) pe_int (nomark _)))), ?_⟩
    have hR : ∀ H1, Ex H H1 → RWaitW C [.ref x, .int t, .int c] H1 (opV (waitW m s g tot rs t c)) := fun H1 e => ⟨x, dx, m, s, l, g, tot, rs, t, c, rfl, e _ _ hx, hP.mono e, ok, rfl⟩
    have ew := ev_methF (σ := start ["self", "moment", "cost"] [.ref x, .int t, .int c]) (H := H) (E := C8.E0) (m := "wait") (ev_var (i := 0) rfl) hx rfl (ea_cons (ev_var (i := 1) rfl) (ea_cons (ev_var (i := 2) rfl) ea_nil)) hR
    refine rt_ret (ev_is (ev_op ew ev_c (rv_eq ?_)) ?_)
    · cases waitW m s g tot rs t c <;> rfl
    · cases waitW m s g tot rs t c with
      | none => rfl
      | some i => exact congrArg V.bl (decide_eq_decide.mpr ⟨fun h => by cases h; rfl, fun h => by cases h; rfl⟩)
theorem met_WindowMeter_kept {f : Addr} {fd : FuncData} (T : Blt mg) (k : ClWM K C) (me : Meth K C "kept" f) (F : C8.Fun K "kept" "WindowMeter.kept" s_WindowMeter_kept f fd) (b : Binds K fd ["self"] []) : C8.Met P w K mg base 1 C "kept" (spF (RKeptW C)) [] := by
  obtain ⟨cl, n1, n2, n3, n4, n5⟩ := k
  refine metF cl me F b sc_WindowMeter_kept (fun vs H v h => ?_) (fun cdv A outer s H vs v E hr h => ?_)
  · obtain ⟨x, dx, m, s, l, g, tot, rs, rfl, _⟩ := h
    rfl
  · obtain ⟨x, dx, m, s, l, g, tot, rs, rfl, hx, hP, rfl⟩ := h
    refine ⟨_, (pss_one (ps_ret (pe_callB call_len_seq (by rfl) T.b_len boot_len (pa_cons (pe_fld (pv 0) rfl) pa_nil)))), ?_⟩
    walk_at "tk_ev"
/-- how many rows ahead are not behind lim -/
def oldN (rs : List (Int × Int)) (lim : Int) : Nat := (rs.takeWhile fun q => decide (q.1 ≤ lim)).length
theorem oldN_le (rs : List (Int × Int)) (lim : Int) : oldN rs lim ≤ rs.length := by
  induction rs with
  | nil => exact Nat.le_refl _
  | cons q rs ih =>
    unfold oldN at ih ⊢
    rw [List.takeWhile_cons]
    split
    · rw [List.length_cons, List.length_cons]; omega
    · simp
theorem oldN_in : ∀ (rs : List (Int × Int)) (lim : Int) (i : Nat), i < oldN rs lim → (rs.getD i (0, 0)).1 ≤ lim
  | [], _, _, h => absurd h (Nat.not_lt_zero _)
  | q :: rs, lim, i, h => by
    unfold oldN at h
    rw [List.takeWhile_cons] at h
    split at h
    · rename_i hq
      cases i with
      | zero => exact of_decide_eq_true hq
      | succ i => exact oldN_in rs lim i (Nat.lt_of_succ_lt_succ h)
    · exact absurd h (Nat.not_lt_zero _)
theorem oldN_out : ∀ (rs : List (Int × Int)) (lim : Int), oldN rs lim < rs.length → ¬ (rs.getD (oldN rs lim) (0, 0)).1 ≤ lim
  | [], _, h => absurd h (Nat.not_lt_zero _)
  | q :: rs, lim, h => by
    have e : oldN (q :: rs) lim = if decide (q.1 ≤ lim) = true then oldN rs lim + 1 else 0 := by
      unfold oldN
      rw [List.takeWhile_cons]
      split <;> rfl
    rw [e] at h ⊢
    by_cases hq : decide (q.1 ≤ lim) = true
    · rw [if_pos hq] at h ⊢
      exact oldN_out rs lim (Nat.lt_of_succ_lt_succ h)
    · rw [if_neg hq]
      exact fun z => hq (decide_eq_true z)
def goneV (rs : List (Int × Int)) (k : Nat) (g : Int) : Int := if k = 0 then g else (rs.getD (k - 1) (0, 0)).2
def spForget (C : Addr) : Sp := fun vs H Q _ => ∃ x dx m s l g tot rs lim, vs = [.ref x, .int lim] ∧ H x = some (.ins C dx (fWM m s l g tot)) ∧ PairsT H l rs ∧ rs.length ≤ 1000 ∧
  ∀ H2, (∀ b o, b ≠ x → b ≠ l → H b = some o → H2 b = some o) → H2 x = some (.ins C dx (fWM m s l (goneV rs (oldN rs lim) g) tot)) → PairsT H2 l (rs.drop (oldN rs lim)) → Q .non H2
theorem met_WindowMeter__forget {f : Addr} {fd : FuncData} (T : Blt mg) (k : ClWM K C) (me : Meth K C "_forget" f) (F : C8.Fun K "_forget" "WindowMeter._forget" s_WindowMeter__forget f fd) (b : Binds K fd ["self", "moment"] []) : C8.Met P w K mg base 1 C "_forget" (spForget C) [] := by
  obtain ⟨cl, n1, n2, n3, n4, n5⟩ := k
  refine C8.met0 cl me F b sc_WindowMeter__forget (fun vs H Q E h => ?_) (fun cdv A outer s H vs Q E hr h => ?_)
  · obtain ⟨x, dx, m, s, l, g, tot, rs, lim, rfl, _⟩ := h
    rfl
  · obtain ⟨x, dx, m, s, l, g, tot, rs, lim, rfl, hx, hP, hn, q⟩ := h
    refine ⟨_, (pss_cons (ps_set (i := 2) sc_WindowMeter__forget.nd rfl (Or.inl rfl) pe_int)
  (pss_cons (ps_while PassesOwn.never (PW.pt (pw_and (pt_cmpR op_lt (pv 2) (pe_callB call_len_seq (by rfl) T.b_len boot_len (pa_cons (pe_fld (pv 0) rfl) pa_nil)) (nomark _)) (pw_and1 (pt_cmpR op_le (pe_ix ix_tup (pe_ix ix_list (pe_fld (pv 0) rfl) (pv 2) (fun _ _ => rfl)) pe_int (fun _ _ => rfl)) (pv 1) (nomark _)))))
    (pss_one (ps_aug (i := 2) sc_WindowMeter__forget.nd rfl (Or.inl rfl) pe_int ip_add)))
  (pss_one (ps_if (pt_cmpR op_gt (pv 2) pe_int (nomark _))
    (pss_cons (ps_fld (pv 0) (pe_ix ix_tup (pe_ix ix_list (pe_fld (pv 0) rfl) (pe_op op_sub (pv 2) pe_int) (fun _ _ => rfl)) pe_int (fun _ _ => rfl)) rfl)
    (pss_one (ps_delTo (pe_fld (pv 0) rfl) (pv 2))))
    pss_nil)))), ?_⟩
    have le := oldN_le rs lim
    refine Nx.go (nx_asg (v := .int ((0 : Nat) : Int)) (by walk_at "tk_ev")) fun H1 e1 => ?_
    replace hx := e1 _ _ hx
    have hP1 := hP.mono e1
    refine Nx.go (nx_while (oldN rs lim) (fun i => [some (.ref x), some (.int lim), some (.int (i : Int))]) (fun i hi => ⟨?_, ?_⟩) ?_) fun H2 e2 => ?_
    · have hin := oldN_in rs lim i hi
      refine et_is (et_and (b := true) (et_test (ev_op (ev_var rfl) (ev_lenP (by walk_at "tk_ev") hP1) rv_I0)) fun _ => et_is (et_test (ev_op (ev_pair0 (q := rs.getD i (0, 0)) (by walk_at "tk_ev") (ev_var rfl) hP1 (by omega) (by rw [Int.toNat_natCast]; exact getD_some (by omega))) (ev_var rfl) rv_I0)) (decide_eq_true hin)) ?_
      rw [Bool.and_true]
      exact decide_eq_true (by omega)
    · have h := nx_aug (σ := [some (.ref x), some (.int lim), some (.int (i : Int))]) (H := H1) (i := 2) (f := fun i j => i + j) (te := tC (.int 1)) rfl ev_c
      rw [show (some (V.int (((i + 1 : Nat)) : Int))) = some (V.int ((i : Int) + 1)) from rfl]
      exact h
    · by_cases hlt : oldN rs lim < rs.length
      · have hout := oldN_out rs lim hlt
        refine et_is (et_and (b := false) (et_test (ev_op (ev_var rfl) (ev_lenP (by walk_at "tk_ev") hP1) rv_I0)) fun _ => et_is (et_test (ev_op (ev_pair0 (q := rs.getD (oldN rs lim) (0, 0)) (by walk_at "tk_ev") (ev_var rfl) hP1 (by omega) (by rw [Int.toNat_natCast]; exact getD_some hlt)) (ev_var rfl) rv_I0)) (decide_eq_false hout)) ?_
        rw [Bool.and_false]
      · refine et_is (et_and (a := false) (b := true) (et_is (et_test (ev_op (ev_var rfl) (ev_lenP (by walk_at "tk_ev") hP1) rv_I0)) (decide_eq_false (by omega))) fun z => by cases z) ?_
        rfl
    · replace hx := e2 _ _ hx
      have hP2 := hP1.mono e2
      refine s_when (b := decide (0 < (oldN rs lim : Int))) (et_test (ev_op (ev_var rfl) ev_c rv_I0)) (fun hb H3 e3 => ?_) (fun hb H3 e3 => ?_)
      · have hk : 0 < (oldN rs lim : Int) := of_decide_eq_true hb
        replace hx := e3 _ _ hx
        have hP3 := hP2.mono e3
        have hge : (rs.getD (oldN rs lim - 1) (0, 0)).2 = goneV rs (oldN rs lim) g := by
          unfold goneV
          rw [if_neg (by omega)]
        have hidx : (((oldN rs lim : Int)) - 1).toNat = oldN rs lim - 1 := by omega
        refine s_fldst (y := .int (goneV rs (oldN rs lim) g)) ?_ (ev_var rfl) hx cl n4 (by show 5 < 1000; decide) fun H4 e4 => ?_
        · rw [← hge]
          refine ev_pair1 (q := rs.getD (oldN rs lim - 1) (0, 0)) (by walk_at "tk_ev") (by walk_at "tk_ev") hP3 (by omega) ?_
          rw [hidx]
          exact getD_some (by omega)
        · obtain ⟨ps, hl, hps⟩ := hP3.mono e4
          have hlx : l ≠ x := ne_of hl (e4 _ _ hx) (by intro z; cases z)
          have hpl := hps.len
          refine ⟨_, rfl, x, C, dx, _, _, rfl, upd_same, cl, n3, rfl, _, rfl, _, rfl, l, ps.map V.ref, oldN rs lim, rfl, rfl, ?_, by rw [List.length_map]; omega, ?_⟩
          · rw [upd_ne hlx]
            exact hl
          · refine q _ (fun b o h1 h2 hb => ?_) ?_ ⟨ps.drop (oldN rs lim), ?_, ?_⟩
            · rw [upd_ne h2, upd_ne h1]
              exact e4 _ _ (e3 _ _ (e2 _ _ (e1 _ _ hb)))
            · rw [upd_ne hlx.symm, upd_same]
              rfl
            · rw [upd_same, List.map_drop]
            · refine Prs.upd (Prs.upd (hps.drop _) fun xs z => ?_) fun xs z => ?_
              · rw [e4 _ _ hx] at z
                cases z
              · rw [upd_ne hlx, hl] at z
                cases z
      · have hk : oldN rs lim = 0 := by
          have := of_decide_eq_false hb
          omega
        refine q H3 (fun b o _ _ hb => e3 _ _ (e2 _ _ (e1 _ _ hb))) ?_ ?_
        · rw [hk]
          exact e3 _ _ hx
        · rw [hk]
          exact hP2.mono e3
end
def spTakeW (C : Addr) : Sp := fun vs H Q _ => ∃ x dx m s l g tot rs t c, vs = [.ref x, .int t, .int c] ∧ H x = some (.ins C dx (fWM m s l g tot)) ∧ PairsT H l rs ∧ rs.length ≤ 900 ∧
  ∀ H2, (∀ b o, b ≠ x → b ≠ l → H b = some o → H2 b = some o) → H2 x = some (.ins C dx (fWM m s l (goneV rs (oldN rs (t - s)) g) (tot + c))) → PairsT H2 l (rs.drop (oldN rs (t - s)) ++ [(t, tot + c)]) → Q .non H2
def JInitWM (C : Addr) (as : List V) (x dx : Addr) (H : Hp) : Prop := ∃ m s l, as = [.int m, .int s] ∧ H x = some (.ins C dx (fWM m s l 0 0)) ∧ H l = some (.lst [])
section
variable {P : Program} {w : World} {K : PySem.W.Frag} {mg : Str → Option Value} {base : Heap} {C : Addr}
theorem met_WindowMeter_take {f : Addr} {fd : FuncData} (k : ClWM K C) (t_WindowMeter__forget : C8.Met P w K mg base 1 C "_forget" (spForget C) []) (me : Meth K C "take" f) (F : C8.Fun K "take" "WindowMeter.take" s_WindowMeter_take f fd) (b : Binds K fd ["self", "moment", "cost"] []) : C8.Met P w K mg base 2 C "take" (spTakeW C) [] := by
  obtain ⟨cl, n1, n2, n3, n4, n5⟩ := k
  refine C8.met0 cl me F b sc_WindowMeter_take (fun vs H Q E h => ?_) (fun cdv A outer s H vs Q E hr h => ?_)
  · obtain ⟨x, dx, m, s, l, g, tot, rs, t, c, rfl, _⟩ := h
    rfl
  · obtain ⟨x, dx, m, s, l, g, tot, rs, t, c, rfl, hx, hP, hn, q⟩ := h
    refine ⟨_, (pss_cons (ps_expr (C8.pe_mt t_WindowMeter__forget hr (by decide) (pv 0) (pa_cons (pe_op op_sub (pv 1) (pe_fld (pv 0) rfl)) pa_nil)))
  (pss_cons (ps_fldaug (pv 0) (pv 2) in_add)
  (pss_one (ps_expr (pe_bm PySem.F.plainAttrs_list PySem.F.slot_list_append PySem.F.type_list_append mt_append (pe_fld (pv 0) rfl) (pa_cons (pe_tup (pa_cons (pv 1) (pa_cons (pe_fld (pv 0) rfl) pa_nil))) pa_nil)))))), ?_⟩
    refine ⟨_, rfl, x, dx, _, rfl, hx, rfl, ?_⟩
    have ea : EvA (tCons (tOp (rI0 fun i j => V.int (i - j)) (tVar 1) (tFld K (tVar 0) "_span")) tNil) (start ["self", "moment", "cost"] [.ref x, .int t, .int c]) H [.int (t - s)] := by walk_at "tk_ev"
    refine ea H (Ex.refl H) _ fun H1 e1 => ?_
    refine ⟨x, dx, m, s, l, g, tot, rs, t - s, rfl, e1 _ _ hx, hP.mono e1, by omega, fun H2 k2 hx2 hP2 => ?_⟩
    refine s_fldaugst (D := { nx := _, rt := Q }) (ev_var rfl) hx2 cl n5 rfl (ev_var rfl) (by show 5 < 1000; decide) fun H3 e3 => ?_
    have hx3 : upd H3 x (.ins C dx (fWM m s l (goneV rs (oldN rs (t - s)) g) (tot + c))) x = some (.ins C dx (fWM m s l (goneV rs (oldN rs (t - s)) g) (tot + c))) := upd_same
    obtain ⟨ps, hl, hps⟩ := hP2.mono e3
    have hlx : l ≠ x := ne_of hl (e3 _ _ hx2) (by intro z; cases z)
    have hl3 : upd H3 x (.ins C dx (fWM m s l (goneV rs (oldN rs (t - s)) g) (tot + c))) l = some (.lst (ps.map V.ref)) := by rw [upd_ne hlx]; exact hl
    have hps3 : Prs (upd H3 x (.ins C dx (fWM m s l (goneV rs (oldN rs (t - s)) g) (tot + c)))) ps (rs.drop (oldN rs (t - s))) := hps.upd fun xs z => by
      rw [e3 _ _ hx2] at z
      cases z
    have hlen : ps.length ≤ 900 := by
      rw [hps.len, List.length_drop]
      omega
    refine s_appU (D := { nx := _, rt := Q }) (ys := [.int t, .int (tot + c)]) hl3 (ev_fld (ev_var rfl) hx3 cl n3 rfl) ?_ (by rw [List.length_map]; omega) fun p H4 np e4 hp => ?_
    · exact eu_tup (ea_cons (ev_var rfl) (ea_cons (ev_fld (ev_var rfl) hx3 cl n5 rfl) ea_nil)) (by simp only [List.length_cons, List.length_nil]; omega)
    · have npl : p ≠ l := fun z => by
        rw [z, hl3] at np
        cases np
      refine q _ (fun b o h1 h2 hb => ?_) ?_ ⟨ps ++ [p], ?_, ?_⟩
      · rw [upd_ne h2]
        refine e4 _ _ ?_
        rw [upd_ne h1]
        exact e3 _ _ (k2 b o h1 h2 (e1 _ _ hb))
      · rw [upd_ne hlx.symm]
        exact e4 _ _ hx3
      · rw [upd_same, List.map_append]
        rfl
      · refine Prs.upd (Prs.snoc (hps3.mono e4) hp) fun xs z => ?_
        rw [e4 _ _ hl3] at z
        cases z
theorem mak_WindowMeter {f : Addr} {fd : FuncData} (k : ClWM K C) (M : Mk K C f) (hm : mg "WindowMeter" = some (.ref C)) (F : C8.Fun K "__init__" "WindowMeter.__init__" s_WindowMeter_init f fd) (b : Binds K fd ["self", "most", "span"] []) : C8.Mak P w K mg base 1 "WindowMeter" C (spI C (fun as => ∃ s f : Int, as = [.int s, .int f]) (JInitWM C)) [] := by
  obtain ⟨cl, n1, n2, n3, n4, n5⟩ := k
  refine C8.mak0 M hm F b .nil sc_WindowMeter_init (fun vs H Q E h => ?_) (fun cdv A outer s H vs Q E hr h => ?_)
  · obtain ⟨x, dx, as, rfl, _, ⟨s, f, rfl⟩, _⟩ := h
    rfl
  · obtain ⟨x, dx, as, rfl, hx, ⟨s, f, rfl⟩, q⟩ := h
    refine ⟨_, (pss_cons (ps_fld (pv 0) (pv 1) rfl)
  (pss_cons (ps_fld (pv 0) (pv 2) rfl)
  (pss_cons (ps_fld (pv 0) (pe_lst pa_nil) rfl)
  (pss_cons (ps_fld (pv 0) pe_int rfl)
  (pss_one (ps_fld (pv 0) pe_int rfl)))))), ?_⟩
    refine ⟨_, rfl, _, rfl, x, C, dx, _, rfl, hx, cl, n1, by show 0 < 1000; decide, ?_⟩
    refine ⟨_, rfl, _, rfl, x, C, dx, _, rfl, upd_same, cl, n2, by show 1 < 1000; decide, ?_⟩
    refine ⟨by show 0 ≤ sizeLine; decide, fun l hl => ?_⟩
    have hxl : x ≠ l := fun z => by
      rw [← z, upd_same] at hl
      cases hl
    refine ⟨_, rfl, x, C, dx, _, rfl, (by rw [upd_ne hxl, upd_same]), cl, n3, by show 2 < 1000; decide, ?_⟩
    refine ⟨_, rfl, x, C, dx, _, rfl, upd_same, cl, n4, by show 3 < 1000; decide, ?_⟩
    refine ⟨_, rfl, x, C, dx, _, rfl, upd_same, cl, n5, by show 4 < 1000; decide, ?_⟩
    refine q _ (fun b o hb e => ?_) ⟨s, f, l, rfl, upd_same, ?_⟩
    · have nb : b ≠ l := fun z => by
        rw [upd_ne hxl.symm, upd_ne hxl.symm] at hl
        rw [z, hl] at e
        cases e
      rw [upd_ne hb, upd_ne hb, upd_ne hb, upd_ne nb, upd_ne hb, upd_ne hb]
      exact e
    · rw [upd_ne hxl.symm, upd_ne hxl.symm, upd_ne hxl.symm, upd_same]
end
/-! what counts as a number within limits; the bounds -/
structure Cst (mg : Str → Option Value) : Prop where
  g_LARGEST_SIZE : ∃ u, mg "LARGEST_SIZE" = some u ∧ RelV (.int 1000000000000000) u
  g_LARGEST_FLOW : ∃ u, mg "LARGEST_FLOW" = some u ∧ RelV (.int 1000000000) u
  g_LARGEST_MOST : ∃ u, mg "LARGEST_MOST" = some u ∧ RelV (.int 1000000000000000) u
  g_LARGEST_SPAN : ∃ u, mg "LARGEST_SPAN" = some u ∧ RelV (.int 1000000000000) u
/-- no number: None, a truth, or of a type beside int -/
def NoInt (K : PySem.W.Frag) (H : Hp) (x : V) : Prop := (∃ b, x = .bl b) ∨ ∃ n : String, (∀ H1, Ex H H1 → TyX K H1 x (.type n)) ∧ kitB n "int" = some false
theorem NoInt.mono {K : PySem.W.Frag} {H H' : Hp} {x : V} (e : Ex H H') (h : NoInt K H x) : NoInt K H' x := h.imp id fun ⟨n, h1, h2⟩ => ⟨n, fun H1 e1 => h1 H1 (e.trans e1), h2⟩
def RWithin (K : PySem.W.Frag) (vs : List V) (H : Hp) (v : V) : Prop := ∃ x lo hi, vs = [x, .int lo, .int hi] ∧ ((∃ i, x = .int i ∧ v = .bl (decide (lo ≤ i) && decide (i ≤ hi))) ∨ (NoInt K H x ∧ v = .bl false))
structure ClJar (K : PySem.W.Frag) (C : Addr) : Prop where
  cl : Cls K C
  n1 : NoAttr K C "_size"
  n2 : NoAttr K C "_flow"
structure ClWin (K : PySem.W.Frag) (C : Addr) : Prop where
  cl : Cls K C
  n1 : NoAttr K C "_most"
  n2 : NoAttr K C "_span"
def fJar (s f : Int) : List (Str × V) := [("_size", .int s), ("_flow", .int f)]
def fWin (m s : Int) : List (Str × V) := [("_most", .int m), ("_span", .int s)]
def DJar (as : List V) : Prop := ∃ s f : Int, as = [.int s, .int f] ∧ 1 ≤ s ∧ s ≤ 1000000000000000 ∧ 0 ≤ f ∧ f ≤ 1000000000
def DWin (as : List V) : Prop := ∃ m s : Int, as = [.int m, .int s] ∧ 1 ≤ m ∧ m ≤ 1000000000000000 ∧ 1 ≤ s ∧ s ≤ 1000000000000
def JJar (C : Addr) (as : List V) (x dx : Addr) (H : Hp) : Prop := ∃ s f, as = [.int s, .int f] ∧ H x = some (.ins C dx (fJar s f))
def JWin (C : Addr) (as : List V) (x dx : Addr) (H : Hp) : Prop := ∃ m s, as = [.int m, .int s] ∧ H x = some (.ins C dx (fWin m s))
theorem tyi {K : PySem.W.Frag} {H : Hp} (i : Int) : ∀ H1, Ex H H1 → TyX K H1 (.int i) (.type "int") := fun _ _ => .base (.int i)
theorem tyb {K : PySem.W.Frag} {H : Hp} (b : Bool) : ∀ H1, Ex H H1 → TyX K H1 (.bl b) (.type "bool") := fun _ _ => .base (.bl b)
theorem kii {K : PySem.W.Frag} : PySem.W.kitOne K (.type "int") (.type "int") = some true := kit_ty (by decide +kernel)
theorem kib {K : PySem.W.Frag} : PySem.W.kitOne K (.type "int") (.type "bool") = some false := kit_ty (by decide +kernel)
theorem kbi {K : PySem.W.Frag} : PySem.W.kitOne K (.type "bool") (.type "int") = some true := kit_ty (by decide +kernel)
theorem kbb {K : PySem.W.Frag} : PySem.W.kitOne K (.type "bool") (.type "bool") = some true := kit_ty (by decide +kernel)
section
variable {P : Program} {w : World} {K : PySem.W.Frag} {mg : Str → Option Value} {base : Heap} {C : Addr}
theorem cal_is_within {f : Addr} {fd : FuncData} (T : Blt mg) (F : C8.Def K mg "is_within" s_is_within f fd) (b : Binds K fd ["value", "least", "largest"] []) : C8.Cal P w K mg base 1 "is_within" (spF (RWithin K)) [] := by
  refine calF F b sc_is_within (fun vs H v h => ?_) (fun cdv A outer s H vs v E hr h => ?_)
  · obtain ⟨x, lo, hi, rfl, _⟩ := h
    rfl
  · obtain ⟨x, lo, hi, rfl, h⟩ := h
    refine ⟨_, (pss_one (ps_ret (pe_and (pe_callB call_isi (by rfl) T.b_isinstance boot_isinstance (pa_cons (pv 0) (pa_cons (pe_bltn (v := .ty "int") (by rfl) T.b_int boot_int rfl) pa_nil))) (pe_and (pe_not (pe_callB call_isi (by rfl) T.b_isinstance boot_isinstance (pa_cons (pv 0) (pa_cons (pe_bltn (v := .ty "bool") (by rfl) T.b_bool boot_bool rfl) pa_nil)))) (pe_one (pe_chain op_le op_le (pv 1) (pv 0) (pv 2))))))), ?_⟩
    rcases h with ⟨i, rfl, rfl⟩ | ⟨h, rfl⟩
    · refine rt_ret (ev_is (ev_andV (a := true) (b := decide (lo ≤ i) && decide (i ≤ hi)) (ev_isi (ev_var rfl) ev_c (.ty "int") (tyi i) kii) fun _ => ev_is (ev_andV (a := true) (b := decide (lo ≤ i) && decide (i ≤ hi)) (ev_notV (a := false) (ev_isi (ev_var rfl) ev_c (.ty "bool") (tyi i) kib)) fun _ => ev_chain (ev_var rfl) (ev_var rfl) rv_I0 (fun _ => ev_var rfl) fun _ => rv_I0) (by rw [Bool.true_and])) (by rw [Bool.true_and]))
    · rcases h with ⟨q, rfl⟩ | ⟨n, hn, hk⟩
      · refine rt_ret (ev_is (ev_andV (a := true) (b := false) (ev_isi (ev_var rfl) ev_c (.ty "int") (tyb q) kbi) fun _ => ev_is (ev_andV (a := false) (b := false) (ev_notV (a := true) (ev_isi (ev_var rfl) ev_c (.ty "bool") (tyb q) kbb)) fun z => by cases z) rfl) rfl)
      · refine rt_ret (ev_andV (a := false) (b := false) (ev_isi (ev_var rfl) ev_c (.ty "int") hn (kit_ty hk)) fun z => by cases z)
theorem rWithin {H : Hp} {i lo hi : Int} {b : Bool} (h : (decide (lo ≤ i) && decide (i ≤ hi)) = b) : ∀ H1, Ex H H1 → RWithin K [.int i, .int lo, .int hi] H1 (.bl b) := fun H1 _ => ⟨.int i, lo, hi, rfl, .inl ⟨i, rfl, by rw [h]⟩⟩
theorem mak_Jar {f : Addr} {fd : FuncData} (G : Cst mg) (k : ClJar K C) (c_is_within : C8.Cal P w K mg base 1 "is_within" (spF (RWithin K)) []) (M : Mk K C f) (hm : mg "Jar" = some (.ref C)) (F : C8.Fun K "__init__" "Jar.__init__" s_Jar_init f fd) (b : Binds K fd ["self", "size", "flow"] []) : C8.Mak P w K mg base 2 "Jar" C (spI C DJar (JJar C)) [] := by
  obtain ⟨cl, n1, n2⟩ := k
  refine C8.mak0 M hm F b .nil sc_Jar_init (fun vs H Q E h => ?_) (fun cdv A outer s H vs Q E hr h => ?_)
  · obtain ⟨x, dx, as, rfl, _, ⟨s, f, rfl, _⟩, _⟩ := h
    rfl
  · obtain ⟨x, dx, as, rfl, hx, ⟨s, f, rfl, h1, h2, h3, h4⟩, q⟩ := h
    refine ⟨_, (pss_cons (ps_if (pt_not (pt_val (C8.pe_c c_is_within hr (by decide) rfl (pa_cons (pv 1) (pa_cons pe_int (pa_cons (C8.pe_gc rfl G.g_LARGEST_SIZE) pa_nil))))))
    (pss_one ps_never)
    pss_nil)
  (pss_cons (ps_if (pt_not (pt_val (C8.pe_c c_is_within hr (by decide) rfl (pa_cons (pv 2) (pa_cons pe_int (pa_cons (C8.pe_gc rfl G.g_LARGEST_FLOW) pa_nil))))))
    (pss_one ps_never)
    pss_nil)
  (pss_cons (ps_fld (pv 0) (pv 1) rfl)
  (pss_one (ps_fld (pv 0) (pv 2) rfl))))), ?_⟩
    refine Nx.go (nx_if (b := false) (et_not (a := true) (et_B (ev_callF (ea_cons (ev_var rfl) (ea_cons ev_c (ea_cons ev_c ea_nil))) (rWithin (by simp only [decide_eq_true h1, decide_eq_true h2, Bool.and_self]))))) (fun z => by cases z) fun _ => nx_next) fun H1 e1 => ?_
    refine Nx.go (nx_if (b := false) (et_not (a := true) (et_B (ev_callF (ea_cons (ev_var rfl) (ea_cons ev_c (ea_cons ev_c ea_nil))) (rWithin (by simp only [decide_eq_true h3, decide_eq_true h4, Bool.and_self]))))) (fun z => by cases z) fun _ => nx_next) fun H2 e2 => ?_
    replace hx := e2 _ _ (e1 _ _ hx)
    refine ⟨_, rfl, _, rfl, x, C, dx, _, rfl, hx, cl, n1, by show 0 < 1000; decide, ?_⟩
    refine ⟨_, rfl, _, rfl, x, C, dx, _, rfl, upd_same, cl, n2, by show 1 < 1000; decide, ?_⟩
    refine q _ (fun b o hb e => ?_) ⟨s, f, rfl, upd_same⟩
    rw [upd_ne hb, upd_ne hb]
    exact e2 _ _ (e1 _ _ e)
theorem mak_Window {f : Addr} {fd : FuncData} (G : Cst mg) (k : ClWin K C) (c_is_within : C8.Cal P w K mg base 1 "is_within" (spF (RWithin K)) []) (M : Mk K C f) (hm : mg "Window" = some (.ref C)) (F : C8.Fun K "__init__" "Window.__init__" s_Window_init f fd) (b : Binds K fd ["self", "most", "span"] []) : C8.Mak P w K mg base 2 "Window" C (spI C DWin (JWin C)) [] := by
  obtain ⟨cl, n1, n2⟩ := k
  refine C8.mak0 M hm F b .nil sc_Window_init (fun vs H Q E h => ?_) (fun cdv A outer s H vs Q E hr h => ?_)
  · obtain ⟨x, dx, as, rfl, _, ⟨s, f, rfl, _⟩, _⟩ := h
    rfl
  · obtain ⟨x, dx, as, rfl, hx, ⟨s, f, rfl, h1, h2, h3, h4⟩, q⟩ := h
    refine ⟨_, (pss_cons (ps_if (pt_not (pt_val (C8.pe_c c_is_within hr (by decide) rfl (pa_cons (pv 1) (pa_cons pe_int (pa_cons (C8.pe_gc rfl G.g_LARGEST_MOST) pa_nil))))))
    (pss_one ps_never)
    pss_nil)
  (pss_cons (ps_if (pt_not (pt_val (C8.pe_c c_is_within hr (by decide) rfl (pa_cons (pv 2) (pa_cons pe_int (pa_cons (C8.pe_gc rfl G.g_LARGEST_SPAN) pa_nil))))))
    (pss_one ps_never)
    pss_nil)
  (pss_cons (ps_fld (pv 0) (pv 1) rfl)
  (pss_one (ps_fld (pv 0) (pv 2) rfl))))), ?_⟩
    refine Nx.go (nx_if (b := false) (et_not (a := true) (et_B (ev_callF (ea_cons (ev_var rfl) (ea_cons ev_c (ea_cons ev_c ea_nil))) (rWithin (by simp only [decide_eq_true h1, decide_eq_true h2, Bool.and_self]))))) (fun z => by cases z) fun _ => nx_next) fun H1 e1 => ?_
    refine Nx.go (nx_if (b := false) (et_not (a := true) (et_B (ev_callF (ea_cons (ev_var rfl) (ea_cons ev_c (ea_cons ev_c ea_nil))) (rWithin (by simp only [decide_eq_true h3, decide_eq_true h4, Bool.and_self]))))) (fun z => by cases z) fun _ => nx_next) fun H2 e2 => ?_
    replace hx := e2 _ _ (e1 _ _ hx)
    refine ⟨_, rfl, _, rfl, x, C, dx, _, rfl, hx, cl, n1, by show 0 < 1000; decide, ?_⟩
    refine ⟨_, rfl, _, rfl, x, C, dx, _, rfl, upd_same, cl, n2, by show 1 < 1000; decide, ?_⟩
    refine q _ (fun b o hb e => ?_) ⟨s, f, rfl, upd_same⟩
    rw [upd_ne hb, upd_ne hb]
    exact e2 _ _ (e1 _ _ e)
end
/-! the meters' making; the law's bound made -/
def RMetJ (C M : Addr) (vs : List V) (H : Hp) (W : V → Hp → Prop) : Prop := ∃ y dy s f, vs = [.ref y] ∧ H y = some (.ins C dy (fJar s f)) ∧ W = fun v H2 => ∃ x, v = .ref x ∧ ∃ dx, H2 x = some (.ins M dx (fJM s f 0 none))
def RMetW (C M : Addr) (vs : List V) (H : Hp) (W : V → Hp → Prop) : Prop := ∃ y dy m s, vs = [.ref y] ∧ H y = some (.ins C dy (fWin m s)) ∧ W = fun v H2 => ∃ x, v = .ref x ∧ ∃ dx l, H2 x = some (.ins M dx (fWM m s l 0 0)) ∧ H2 l = some (.lst [])
def BdAt (cJ cW : Addr) (bd : Bd) (y : Addr) (H : Hp) : Prop := match bd with
  | .jar s f => ∃ dy, H y = some (.ins cJ dy (fJar s f))
  | .win m s => ∃ dy, H y = some (.ins cW dy (fWin m s))
def Bd.ok : Bd → Prop
  | .jar s f => 1 ≤ s ∧ s ≤ 1000000000000000 ∧ 0 ≤ f ∧ f ≤ 1000000000
  | .win m s => 1 ≤ m ∧ m ≤ 1000000000000000 ∧ 1 ≤ s ∧ s ≤ 1000000000000
def RMade (cJ cW : Addr) (vs : List V) (H : Hp) (W : V → Hp → Prop) : Prop := ∃ p bd, vs = [.ref p] ∧ H p = some (.tup (Bd.tup bd)) ∧ bd.ok ∧ W = fun v H2 => ∃ y, v = .ref y ∧ BdAt cJ cW bd y H2
theorem EvW.imp {te : TE} {σ : L2.St} {H : Hp} {W W' : V → Hp → Prop} (h : EvW te σ H W) (k : ∀ v H1, Ex H H1 → W v H1 → W' v H1) : EvW te σ H W' := fun H1 e Q q => h H1 e Q fun v H2 e2 w => q v H2 e2 (k v H2 (e.trans e2) w)
theorem dj : decide (V.str "jar" = V.str "jar") = true := by decide +kernel
theorem dw : decide (V.str "window" = V.str "jar") = false := by decide +kernel
section
variable {P : Program} {w : World} {K : PySem.W.Frag} {mg : Str → Option Value} {base : Heap} {C M cJ cW : Addr}
theorem met_Jar_meter {f : Addr} {fd : FuncData} (k : ClJar K C) (m_JarMeter : C8.Mak P w K mg base 1 "JarMeter" M (spI M (fun as => ∃ s f : Int, as = [.int s, .int f]) (JInitJM M)) []) (me : Meth K C "meter" f) (F : C8.Fun K "meter" "Jar.meter" s_Jar_meter f fd) (b : Binds K fd ["self"] []) : C8.Met P w K mg base 3 C "meter" (spW (RMetJ C M)) [] := by
  obtain ⟨cl, n1, n2⟩ := k
  refine metW cl me F b sc_Jar_meter (fun vs H v h => ?_) (fun cdv A outer s H vs W E hr h => ?_)
  · obtain ⟨y, dy, s, f, rfl, _⟩ := h
    rfl
  · obtain ⟨y, dy, s, f, rfl, hy, rfl⟩ := h
    refine ⟨_, (pss_one (ps_ret (C8.pe_mk m_JarMeter hr (by decide) rfl (pa_cons (pe_fld (pv 0) rfl) (pa_cons (pe_fld (pv 0) rfl) pa_nil))))), ?_⟩
    refine rtw_ret (EvW.imp (evw_make (vs := [.int s, .int f]) (by walk_at "tk_ev") ⟨s, f, rfl⟩) fun v H1 _ ⟨x, dx, e1, s', f', e2, e3⟩ => ?_)
    cases e2
    exact ⟨x, e1, dx, e3⟩
theorem met_Window_meter {f : Addr} {fd : FuncData} (k : ClWin K C) (m_WindowMeter : C8.Mak P w K mg base 1 "WindowMeter" M (spI M (fun as => ∃ s f : Int, as = [.int s, .int f]) (JInitWM M)) []) (me : Meth K C "meter" f) (F : C8.Fun K "meter" "Window.meter" s_Window_meter f fd) (b : Binds K fd ["self"] []) : C8.Met P w K mg base 3 C "meter" (spW (RMetW C M)) [] := by
  obtain ⟨cl, n1, n2⟩ := k
  refine metW cl me F b sc_Window_meter (fun vs H v h => ?_) (fun cdv A outer s H vs W E hr h => ?_)
  · obtain ⟨y, dy, s, f, rfl, _⟩ := h
    rfl
  · obtain ⟨y, dy, s, f, rfl, hy, rfl⟩ := h
    refine ⟨_, (pss_one (ps_ret (C8.pe_mk m_WindowMeter hr (by decide) rfl (pa_cons (pe_fld (pv 0) rfl) (pa_cons (pe_fld (pv 0) rfl) pa_nil))))), ?_⟩
    refine rtw_ret (EvW.imp (evw_make (vs := [.int s, .int f]) (by walk_at "tk_ev") ⟨s, f, rfl⟩) fun v H1 _ ⟨x, dx, e1, s', f', l, e2, e3, e4⟩ => ?_)
    cases e2
    exact ⟨x, e1, dx, l, e3, e4⟩
theorem cal_Lmade {f : Addr} {fd : FuncData} (m_Jar : C8.Mak P w K mg base 2 "Jar" cJ (spI cJ DJar (JJar cJ)) []) (m_Window : C8.Mak P w K mg base 2 "Window" cW (spI cW DWin (JWin cW)) []) (F : C8.Def K mg "_law_made" s_Lmade f fd) (b : Binds K fd ["_law_bound_here"] []) : C8.Cal P w K mg base 4 "_law_made" (spW (RMade cJ cW)) [] := by
  refine calW F b sc_Lmade (fun vs H v h => ?_) (fun cdv A outer s H vs W E hr h => ?_)
  · obtain ⟨p, bd, rfl, _⟩ := h
    rfl
  · obtain ⟨p, bd, rfl, hp, ok, rfl⟩ := h
    refine ⟨_, (pss_cons (ps_if (pt_cmpR op_eq (pe_ix ix_tup (pv 0) pe_int (fun _ _ => rfl)) pe_str (nomark _))
    (pss_one (ps_ret (C8.pe_mk m_Jar hr (by decide) rfl (pa_cons (pe_ix ix_tup (pv 0) pe_int (fun _ _ => rfl)) (pa_cons (pe_ix ix_tup (pv 0) pe_int (fun _ _ => rfl)) pa_nil)))))
    pss_nil)
  (pss_one (ps_ret (C8.pe_mk m_Window hr (by decide) rfl (pa_cons (pe_ix ix_tup (pv 0) pe_int (fun _ _ => rfl)) (pa_cons (pe_ix ix_tup (pv 0) pe_int (fun _ _ => rfl)) pa_nil)))))), ?_⟩
    have hT : SqT K H p bd.tup := st_of hp
    cases bd with
    | jar s f =>
      have e1 : atI (Bd.tup (.jar s f)) 1 = some (.int s) := rfl
      have e2 : atI (Bd.tup (.jar s f)) 2 = some (.int f) := rfl
      refine rtw_ifseq (b := true) (et_is (et_test (ev_op (ev_ixT (v := .str "jar") (ev_var rfl) ev_c hT rfl) ev_c (rv_eq rfl))) dj) (fun _ => ?_) fun z => by cases z
      refine rtw_ret (EvW.imp (evw_make (vs := [.int s, .int f]) (ea_cons (ev_ixT (ev_var rfl) ev_c hT e1) (ea_cons (ev_ixT (ev_var rfl) ev_c hT e2) ea_nil)) ⟨s, f, rfl, ok⟩) fun v H1 _ ⟨y, dy, w1, s', f', w2, w3⟩ => ?_)
      cases w2
      exact ⟨y, w1, dy, w3⟩
    | win s f =>
      have e1 : atI (Bd.tup (.win s f)) 1 = some (.int s) := rfl
      have e2 : atI (Bd.tup (.win s f)) 2 = some (.int f) := rfl
      refine rtw_ifseq (b := false) (et_is (et_test (ev_op (ev_ixT (v := .str "window") (ev_var rfl) ev_c hT rfl) ev_c (rv_eq rfl))) dw) (fun z => by cases z) fun _ => ?_
      refine rtw_ret (EvW.imp (evw_make (vs := [.int s, .int f]) (ea_cons (ev_ixT (ev_var rfl) ev_c hT e1) (ea_cons (ev_ixT (ev_var rfl) ev_c hT e2) ea_nil)) ⟨s, f, rfl, ok⟩) fun v H1 _ ⟨y, dy, w1, s', f', w2, w3⟩ => ?_)
      cases w2
      exact ⟨y, w1, dy, w3⟩
end
/-! the law's own wait: all stretches that end with the visit -/
def turnW (bd : Bd) (t : Int) (q : Int × Int) (st : Int × Int) : Option (Int × Int) :=
  if st.2 + q.2 > bd.cap then
    match bd with
    | .win _ s => some (max st.1 (q.1 + s - t), st.2 + q.2)
    | .jar m f => if f = 0 then none else some (max st.1 (q.1 + (st.2 + q.2 - m + f - 1) / f - t), st.2 + q.2)
  else some (st.1, st.2 + q.2)
def runW (bd : Bd) (t : Int) : List (Int × Int) → Int × Int → Option (Int × Int)
  | [], st => some st
  | q :: r, st => match turnW bd t q st with
    | none => none
    | some st' => runW bd t r st'
def dueV (bd : Bd) (vs : List (Int × Int)) (t c : Int) : Option Int :=
  if c > bd.cap then none else match runW bd t vs.reverse (0, c) with
    | none => none
    | some st => some st.1
theorem runW_runN (bd : Bd) (t : Int) : ∀ (r p : List (Int × Int)) (st : Int × Int), runW bd t r st = runN (fun i st => turnW bd t ((p ++ r).getD i (0, 0)) st) r.length p.length st
  | [], _, _ => rfl
  | q :: r, p, st => by
    have e0 : (p ++ q :: r).getD p.length (0, 0) = q := by
      rw [List.getD_eq_getElem?_getD, List.getElem?_append_right (Nat.le_refl _), Nat.sub_self]
      rfl
    rw [runW, List.length_cons, runN, e0]
    cases turnW bd t q st with
    | none => rfl
    | some st' =>
      have z := runW_runN bd t r (p ++ [q]) st'
      rw [List.length_append, List.append_assoc] at z
      exact z
theorem runW_eq (bd : Bd) (t : Int) (vs : List (Int × Int)) (st : Int × Int) : runW bd t vs.reverse st = runN (fun i st => turnW bd t (vs.reverse.getD i (0, 0)) st) vs.length 0 st := by
  have z := runW_runN bd t vs.reverse [] st
  rw [List.length_reverse] at z
  exact z
theorem rev_at {vs : List (Int × Int)} {i : Nat} (h : i < vs.length) : vs[vs.length - 1 - i]? = some (vs.reverse.getD i (0, 0)) := by
  rw [List.getD_eq_getElem?_getD, List.getElem?_reverse h, List.getElem?_eq_getElem (by omega)]
  rfl
def RWaitL (vs : List V) (H : Hp) (v : V) : Prop := ∃ p l t c bd vis, vs = [.ref p, .ref l, .int t, .int c] ∧ H p = some (.tup (Bd.tup bd)) ∧ PairsT H l vis ∧ (∀ s f, bd = .jar s f → 0 ≤ f ∧ f ≤ 1000000000) ∧ vis.length ≤ 1000 ∧ v = opV (dueV bd vis t c)
theorem rWaitL {H : Hp} {p l : Addr} {t c : Int} {bd : Bd} {vis : List (Int × Int)} (hp : H p = some (.tup (Bd.tup bd))) (hP : PairsT H l vis) (hb : ∀ s f, bd = .jar s f → 0 ≤ f ∧ f ≤ 1000000000) (hn : vis.length ≤ 1000) : ∀ H1, Ex H H1 → RWaitL [.ref p, .ref l, .int t, .int c] H1 (opV (dueV bd vis t c)) :=
  fun H1 e => ⟨p, l, t, c, bd, vis, rfl, e _ _ hp, hP.mono e, hb, hn, rfl⟩
def Bd.nm : Bd → Str
  | .jar _ _ => "jar"
  | .win _ _ => "window"
theorem tup0 (bd : Bd) : atI bd.tup 0 = some (.str bd.nm) := by cases bd <;> rfl
theorem tup1 (bd : Bd) : atI bd.tup 1 = some (.int bd.cap) := by cases bd <;> rfl
theorem tup2 (bd : Bd) : atI bd.tup 2 = some (.int bd.two) := by cases bd <;> rfl
theorem dww : decide (V.str "window" = V.str "window") = true := by decide +kernel
theorem djw : decide (V.str "jar" = V.str "window") = false := by decide +kernel
section
variable {P : Program} {w : World} {K : PySem.W.Frag} {mg : Str → Option Value} {base : Heap}
theorem cal_Lwait {f : Addr} {fd : FuncData} (T : Blt mg) (F : C8.Def K mg "_law_wait" s_Lwait f fd) (b : Binds K fd ["_law_bound_here", "_law_visits", "_law_moment", "_law_cost_here"] []) : C8.Cal P w K mg base 1 "_law_wait" (spF RWaitL) [] := by
  refine calF F b sc_Lwait (fun vs H v h => ?_) (fun cdv A outer s H vs v E hr h => ?_)
  · obtain ⟨p, l, t, c, bd, vis, rfl, _⟩ := h
    rfl
  · obtain ⟨p, l, t, c, bd, vis, rfl, hp, hP, hb, hn, rfl⟩ := h
    refine ⟨_, (pss_cons (ps_if (pt_cmpR op_gt (pv 3) (pe_ix ix_tup (pv 0) pe_int (fun _ _ => rfl)) (nomark _))
    (pss_one (ps_ret pe_non))
    pss_nil)
  (pss_cons (ps_set (i := 4) sc_Lwait.nd rfl (Or.inl rfl) pe_int)
  (pss_cons (ps_set (i := 5) sc_Lwait.nd rfl (Or.inl rfl) (pv 3))
  (pss_cons (ps_for PassesOwn.never rfl (pi_range3 rfl T.b_range (pa_cons (pe_op op_sub (pe_callB call_len_seq (by rfl) T.b_len boot_len (pa_cons (pv 1) pa_nil)) pe_int) (pa_cons (pe_un un_neg pe_int) (pa_cons (pe_un un_neg pe_int) pa_nil)))) (pg_name (i := 6) sc_Lwait.nd rfl (Or.inl rfl))
    (pss_cons (ps_set (i := 5) sc_Lwait.nd rfl (Or.inl rfl) (pe_op op_add (pv 5) (pe_ix ix_tup (pe_ix ix_list (pv 1) (pv 6) (fun _ _ => rfl)) pe_int (fun _ _ => rfl))))
    (pss_one (ps_if (PW.pt (pw_and (pt_cmpR op_gt (pv 5) (pe_ix ix_tup (pv 0) pe_int (fun _ _ => rfl)) (nomark _)) (pw_and1 (pt_cmpR op_eq (pe_ix ix_tup (pv 0) pe_int (fun _ _ => rfl)) pe_str (nomark _)))))
      (pss_one (ps_set (i := 4) sc_Lwait.nd rfl (Or.inl rfl) (pe_callB (call_max2 rfl) (by rfl) T.b_max boot_max (pa_cons (pv 4) (pa_cons (pe_op op_sub (pe_op op_add (pe_ix ix_tup (pe_ix ix_list (pv 1) (pv 6) (fun _ _ => rfl)) pe_int (fun _ _ => rfl)) (pe_ix ix_tup (pv 0) pe_int (fun _ _ => rfl))) (pv 2)) pa_nil)))))
      (pss_one (ps_if (PW.pt (pw_and (pt_cmpR op_gt (pv 5) (pe_ix ix_tup (pv 0) pe_int (fun _ _ => rfl)) (nomark _)) (pw_and1 (pt_cmpR op_eq (pe_ix ix_tup (pv 0) pe_int (fun _ _ => rfl)) pe_int (nomark _)))))
        (pss_one (ps_ret pe_non))
        (pss_one (ps_if (pt_cmpR op_gt (pv 5) (pe_ix ix_tup (pv 0) pe_int (fun _ _ => rfl)) (nomark _))
          (pss_one (ps_set (i := 4) sc_Lwait.nd rfl (Or.inl rfl) (pe_callB (call_max2 rfl) (by rfl) T.b_max boot_max (pa_cons (pv 4) (pa_cons (pe_op op_sub (pe_op op_add (pe_ix ix_tup (pe_ix ix_list (pv 1) (pv 6) (fun _ _ => rfl)) pe_int (fun _ _ => rfl)) (pe_op op_fdiv (pe_op op_sub (pe_op op_add (pe_op op_sub (pv 5) (pe_ix ix_tup (pv 0) pe_int (fun _ _ => rfl))) (pe_ix ix_tup (pv 0) pe_int (fun _ _ => rfl))) pe_int) (pe_ix ix_tup (pv 0) pe_int (fun _ _ => rfl)))) (pv 2)) pa_nil)))))
          pss_nil))))))))
  (pss_one (ps_ret (pv 4))))))), ?_⟩
    have hT : SqT K H p bd.tup := st_of hp
    unfold dueV
    refine rt_ifseq (et_test (ev_op (ev_var rfl) (ev_ixT (ev_var rfl) ev_c hT (tup1 bd)) rv_I0)) (fun hc => ?_) fun hc => ?_
    · have h1 : c > bd.cap := of_decide_eq_true hc
      rw [if_pos h1]
      walk_at "tk_ev"
    · have h1 : ¬ c > bd.cap := of_decide_eq_false hc
      rw [if_neg h1]
      refine rt_seq (nx_asg ev_c) (rt_seq (nx_asg (ev_var rfl)) ?_)
      have kv : ∀ i : Nat, i < vis.length → 0 ≤ (vis.length : Int) - 1 + ((i : Nat) : Int) * (-1) ∧ ((vis.length : Int) - 1 + ((i : Nat) : Int) * (-1)).toNat = vis.length - 1 - i := fun i hi => ⟨by omega, by omega⟩
      have hlen : vis.reverse.length = vis.length := List.length_reverse
      have hcnt : (((vis.length : Int) - 1) - (-1)).toNat = vis.length := by omega
      let S : Int × Int → Nat → L2.St := fun st i => [some (.ref p), some (.ref l), some (.int t), some (.int c), some (.int st.1), some (.int st.2), match i with | 0 => none | i + 1 => some (.int ((vis.length : Int) - 1 + ((i : Nat) : Int) * (-1)))]
      rw [runW_eq]
      refine Rt.at (σ' := S (0, c) 0) ?_ rfl
      refine rt_for_opt (items := fun i => .int ((vis.length : Int) - 1 + ((i : Nat) : Int) * (-1))) (n := vis.length) (v0 := .non) (fun i st => turnW bd t (vis.reverse.getD i (0, 0)) st) S (fun _ _ => True) True.intro ?_ (fun i st st' hi _ ht => ⟨gnx_name ?_, True.intro⟩) (fun i st hi _ ht => grt_name ?_) (fun st _ hst => ?_) (fun hst => ?_)
      · have z := ei_r3 (σ := S (0, c) 0) (H := H) (ea_cons (ev_op (ev_lenP (K := K) (ev_var (i := 1) rfl) hP) ev_c (rv_I0 (g := fun i j => V.int (i - j)) (j := 1))) (ea_cons (ev_un ev_c (ru_neg (i := 1))) (ea_cons (ev_un ev_c (ru_neg (i := 1))) ea_nil))) (RgC.neg (by omega) (by omega) (by decide) (by decide))
        rw [show ((vis.length : Int) - 1 - -1).toNat = vis.length by omega] at z
        exact z
      · have hq := rev_at hi
        rw [← (kv i hi).2] at hq
        have hk0 := (kv i hi).1
        generalize vis.reverse.getD i (0, 0) = q at ht hq
        refine nx_seq (nx_asg (v := .int (st.2 + q.2)) (ev_op (ev_var rfl) (ev_pair1 (ev_var rfl) (ev_var rfl) hP hk0 hq) rv_I0)) ?_
        unfold turnW at ht
        have t1 : ∀ {σ : L2.St}, σ[0]? = some (some (.ref p)) → σ[5]? = some (some (.int (st.2 + q.2))) → EvT (tTest (tOp (rI0 fun i j => V.bl (decide (j < i))) (tVar 5) (tOp (rIxT K) (tVar 0) (tC (.int 1))))) σ H (decide (bd.cap < st.2 + q.2)) := fun a b => et_test (ev_op (ev_var b) (ev_ixT (ev_var a) ev_c hT (tup1 bd)) rv_I0)
        by_cases hu : st.2 + q.2 > bd.cap
        · rw [if_pos hu] at ht
          cases bd with
          | win m s =>
            obtain rfl := Option.some.inj ht
            refine nx_if (b := true) (et_is (et_and (t1 rfl rfl) fun _ => et_is (et_test (ev_op (ev_ixT (ev_var rfl) ev_c hT (tup0 _)) ev_c (rv_eq rfl))) (b := true) dww) (by rw [Bool.and_true]; exact decide_eq_true hu)) (fun _ => ?_) fun z => by cases z
            exact nx_asg (ev_max (ev_var rfl) (ev_op (ev_op (ev_pair0 (ev_var rfl) (ev_var rfl) hP hk0 hq) (ev_ixT (ev_var rfl) ev_c hT (tup2 _)) rv_I0) (ev_var rfl) rv_I0))
          | jar m f =>
            have hf := hb m f rfl
            refine nx_if (b := false) (et_is (et_and (t1 rfl rfl) fun _ => et_is (et_test (ev_op (ev_ixT (ev_var rfl) ev_c hT (tup0 _)) ev_c (rv_eq rfl))) (b := false) djw) (by rw [Bool.and_false])) (fun z => by cases z) fun _ => ?_
            by_cases h0 : f = 0
            · rw [show (match Bd.jar m f with | .win _ s => some (max st.1 (q.1 + s - t), st.2 + q.2) | .jar m f => if f = 0 then none else some (max st.1 (q.1 + (st.2 + q.2 - m + f - 1) / f - t), st.2 + q.2)) = if f = 0 then none else some (max st.1 (q.1 + (st.2 + q.2 - m + f - 1) / f - t), st.2 + q.2) from rfl, if_pos h0] at ht
              cases ht
            · rw [show (match Bd.jar m f with | .win _ s => some (max st.1 (q.1 + s - t), st.2 + q.2) | .jar m f => if f = 0 then none else some (max st.1 (q.1 + (st.2 + q.2 - m + f - 1) / f - t), st.2 + q.2)) = if f = 0 then none else some (max st.1 (q.1 + (st.2 + q.2 - m + f - 1) / f - t), st.2 + q.2) from rfl, if_neg h0] at ht
              obtain rfl := Option.some.inj ht
              refine nx_if (b := false) (et_is (et_and (t1 rfl rfl) fun _ => et_is (et_test (ev_op (ev_ixT (ev_var rfl) ev_c hT (tup2 _)) ev_c (rv_eq rfl))) (b := false) (decide_eq_false fun z => h0 (by cases z; rfl))) (by rw [Bool.and_false])) (fun z => by cases z) fun _ => ?_
              refine nx_if (b := true) (et_is (t1 rfl rfl) (decide_eq_true hu)) (fun _ => ?_) fun z => by cases z
              have e1 := fun {σ : L2.St} (a : σ[0]? = some (some (V.ref p))) => ev_ixT (ev_var a) ev_c hT (tup1 (.jar m f)) (H := H)
              have e2 := fun {σ : L2.St} (a : σ[0]? = some (some (V.ref p))) => ev_ixT (ev_var a) ev_c hT (tup2 (.jar m f)) (H := H)
              exact nx_asg (ev_max (ev_var rfl) (ev_op (ev_op (ev_pair0 (ev_var rfl) (ev_var rfl) hP hk0 hq) (ev_op (ev_op (ev_op (ev_op (ev_var rfl) (e1 rfl) rv_I0) (e2 rfl) rv_I0) ev_c rv_I0) (e2 rfl) (rv_I ⟨show 0 < f by omega, show f < 1073741824 by omega⟩)) rv_I0) (ev_var rfl) rv_I0))
        · rw [if_neg hu] at ht
          obtain rfl := Option.some.inj ht
          refine nx_if (b := false) (et_is (et_and (a := false) (b := true) (et_is (t1 rfl rfl) (decide_eq_false hu)) fun z => by cases z) rfl) (fun z => by cases z) fun _ => ?_
          refine nx_if (b := false) (et_is (et_and (a := false) (b := true) (et_is (t1 rfl rfl) (decide_eq_false hu)) fun z => by cases z) rfl) (fun z => by cases z) fun _ => ?_
          exact nx_if (b := false) (et_is (t1 rfl rfl) (decide_eq_false hu)) (fun z => by cases z) fun _ => nx_next
      · have hq := rev_at hi
        rw [← (kv i hi).2] at hq
        have hk0 := (kv i hi).1
        generalize vis.reverse.getD i (0, 0) = q at ht hq
        refine rt_seq (nx_asg (v := .int (st.2 + q.2)) (ev_op (ev_var rfl) (ev_pair1 (ev_var rfl) (ev_var rfl) hP hk0 hq) rv_I0)) ?_
        unfold turnW at ht
        have t1 : ∀ {σ : L2.St}, σ[0]? = some (some (.ref p)) → σ[5]? = some (some (.int (st.2 + q.2))) → EvT (tTest (tOp (rI0 fun i j => V.bl (decide (j < i))) (tVar 5) (tOp (rIxT K) (tVar 0) (tC (.int 1))))) σ H (decide (bd.cap < st.2 + q.2)) := fun a b => et_test (ev_op (ev_var b) (ev_ixT (ev_var a) ev_c hT (tup1 bd)) rv_I0)
        by_cases hu : st.2 + q.2 > bd.cap
        · rw [if_pos hu] at ht
          cases bd with
          | win m s => cases ht
          | jar m f =>
            by_cases h0 : f = 0
            · refine rt_if (b := false) (et_is (et_and (t1 rfl rfl) fun _ => et_is (et_test (ev_op (ev_ixT (ev_var rfl) ev_c hT (tup0 _)) ev_c (rv_eq rfl))) (b := false) djw) (by rw [Bool.and_false])) (fun z => by cases z) fun _ => ?_
              refine rt_if (b := true) (et_is (et_and (t1 rfl rfl) fun _ => et_is (et_test (ev_op (ev_ixT (ev_var rfl) ev_c hT (tup2 _)) ev_c (rv_eq rfl))) (b := true) (decide_eq_true (congrArg V.int h0))) (by rw [Bool.and_true]; exact decide_eq_true hu)) (fun _ => ?_) fun z => by cases z
              exact rt_ret ev_c
            · rw [show (match Bd.jar m f with | .win _ s => some (max st.1 (q.1 + s - t), st.2 + q.2) | .jar m f => if f = 0 then none else some (max st.1 (q.1 + (st.2 + q.2 - m + f - 1) / f - t), st.2 + q.2)) = if f = 0 then none else some (max st.1 (q.1 + (st.2 + q.2 - m + f - 1) / f - t), st.2 + q.2) from rfl, if_neg h0] at ht
              cases ht
        · rw [if_neg hu] at ht
          cases ht
      · rw [hst]
        exact rt_ret (ev_var rfl)
      · rw [hst]
        rfl
end
/-! the mathematics of the jar: its level is the most that some stretch has beyond the flow -/
def pk (f t : Int) : List (Int × Int) → Int → Int → Int
  | [], _, best => best
  | q :: r, u, best => pk f t r (u + q.2) (max best (u + q.2 - f * (t - q.1)))
theorem pk_max (f t : Int) : ∀ (r : List (Int × Int)) (u a b : Int), pk f t r u (max a b) = max a (pk f t r u b)
  | [], _, _, _ => rfl
  | q :: r, u, a, b => by
    show pk f t r (u + q.2) (max (max a b) (u + q.2 - f * (t - q.1))) = max a (pk f t r (u + q.2) (max b (u + q.2 - f * (t - q.1))))
    rw [← pk_max f t r (u + q.2) a, show max (max a b) (u + q.2 - f * (t - q.1)) = max a (max b (u + q.2 - f * (t - q.1))) by omega]
theorem pk_ge (f t : Int) (r : List (Int × Int)) (u b : Int) : b ≤ pk f t r u b := by
  have z := pk_max f t r u b b
  rw [show max b b = b by omega] at z
  omega
theorem pk_u (f t d : Int) : ∀ (r : List (Int × Int)) (u b : Int), pk f t r (u + d) (b + d) = pk f t r u b + d
  | [], _, _ => rfl
  | q :: r, u, b => by
    show pk f t r (u + d + q.2) (max (b + d) (u + d + q.2 - f * (t - q.1))) = pk f t r (u + q.2) (max b (u + q.2 - f * (t - q.1))) + d
    rw [← pk_u f t d r, show u + d + q.2 = u + q.2 + d by omega, show max (b + d) (u + q.2 + d - f * (t - q.1)) = max b (u + q.2 - f * (t - q.1)) + d by omega]
theorem pk_t (f t t' : Int) : ∀ (r : List (Int × Int)) (u b : Int), pk f t' r u (b - f * (t' - t)) = pk f t r u b - f * (t' - t)
  | [], _, _ => rfl
  | q :: r, u, b => by
    show pk f t' r (u + q.2) (max (b - f * (t' - t)) (u + q.2 - f * (t' - q.1))) = pk f t r (u + q.2) (max b (u + q.2 - f * (t - q.1))) - f * (t' - t)
    have e : f * (t' - q.1) = f * (t - q.1) + f * (t' - t) := by rw [← Int.mul_add]; congr 1; omega
    rw [← pk_t f t t' r, show max (b - f * (t' - t)) (u + q.2 - f * (t' - q.1)) = max b (u + q.2 - f * (t - q.1)) - f * (t' - t) by omega]
/-- every moment is at most t -/
def Upto (vs : List (Int × Int)) (t : Int) : Prop := ∀ q ∈ vs, q.1 ≤ t
structure JRel (f : Int) (vs : List (Int × Int)) (l : Int) (m : Option Int) : Prop where
  lev : ∀ t, Upto vs t → levV f l m t = pk f t vs.reverse 0 0
  mm : l ≠ 0 → ∃ i, m = some i
theorem jrel_nil (f : Int) : JRel f [] 0 none := ⟨fun _ _ => rfl, fun h => absurd rfl h⟩
theorem lev_nn (f l : Int) (m : Option Int) (t : Int) : 0 ≤ levV f l m t := by
  unfold levV
  by_cases h : l = 0
  · rw [if_pos h]; exact Int.le_refl _
  · rw [if_neg h]; omega
theorem jrel_take {f l : Int} {m : Option Int} {vs : List (Int × Int)} {t c : Int} (h : JRel f vs l m) (hu : Upto vs t) (hc : 1 ≤ c) : JRel f (vs ++ [(t, c)]) (levV f l m t + c) (some t) := by
  refine ⟨fun t' hu' => ?_, fun _ => ⟨t, rfl⟩⟩
  have l0 := lev_nn f l m t
  have e0 := h.lev t hu
  have hne : ¬ levV f l m t + c = 0 := by omega
  rw [List.reverse_append]
  show levV f (levV f l m t + c) (some t) t' = pk f t' vs.reverse (0 + c) (max 0 (0 + c - f * (t' - t)))
  rw [Int.zero_add, pk_max, pk_t f t t' vs.reverse c c]
  have e1 : pk f t vs.reverse c c = pk f t vs.reverse 0 0 + c := by
    have z := pk_u f t c vs.reverse 0 0
    rw [Int.zero_add] at z
    exact z
  rw [e1, ← e0]
  generalize levV f l m t = L at *
  unfold levV
  rw [if_neg hne]
  rfl
theorem cd_mono {f x y : Int} (hf : 0 < f) (h : x ≤ y) : (x + f - 1) / f ≤ (y + f - 1) / f := Int.ediv_le_ediv hf (by omega)
theorem cd_max {f x y : Int} (hf : 0 < f) : (max x y + f - 1) / f = max ((x + f - 1) / f) ((y + f - 1) / f) := by
  rcases Int.le_total x y with h | h
  · have z := cd_mono hf h
    rw [show max x y = y by omega]
    omega
  · have z := cd_mono hf h
    rw [show max x y = x by omega]
    omega
theorem cd_low {f x : Int} (hf : 0 < f) (h : x ≤ 0) : (x + f - 1) / f ≤ 0 := by
  have z := cd_mono hf h
  have e : (0 + f - 1) / f = 0 := Int.ediv_eq_zero_of_lt (by omega) (by omega)
  omega
theorem cd_up {f x : Int} (hf : 0 < f) (h : 0 < x) : 1 ≤ (x + f - 1) / f := by
  have z := Int.ediv_le_ediv hf (show f ≤ x + f - 1 by omega)
  rw [Int.ediv_self (by omega)] at z
  exact z
theorem cd_mul {f x : Int} (hf : 0 < f) : x ≤ f * ((x + f - 1) / f) := by
  have z := Int.lt_mul_ediv_self_add (x := x + f - 1) hf
  omega
theorem cd_shift {f y d : Int} (hf : 0 < f) : (y - f * d + f - 1) / f = (y + f - 1) / f - d := by
  rw [show y - f * d + f - 1 = (y + f - 1) + f * (-d) by rw [Int.mul_neg]; omega, Int.add_mul_ediv_left _ _ (by omega)]
  omega
theorem run0 (s t : Int) : ∀ (r : List (Int × Int)) (u b : Int), b ≤ s → runW (.jar s 0) t r (0, u) = if pk 0 t r u b > s then none else some (0, u + (r.map (·.2)).sum)
  | [], u, b, h => by
    show some (0, u) = if b > s then none else some (0, u + 0)
    rw [if_neg (by omega), Int.add_zero]
  | q :: r, u, b, h => by
    show (match turnW (.jar s 0) t q (0, u) with | none => none | some st' => runW (.jar s 0) t r st') = if pk 0 t r (u + q.2) (max b (u + q.2 - 0 * (t - q.1))) > s then none else some (0, u + ((q :: r).map (·.2)).sum)
    have ez : u + q.2 - 0 * (t - q.1) = u + q.2 := by rw [Int.zero_mul, Int.sub_zero]
    rw [ez]
    unfold turnW
    by_cases hu : u + q.2 > s
    · have g := pk_ge 0 t r (u + q.2) (max b (u + q.2))
      rw [if_pos (show ((0, u) : Int × Int).2 + q.2 > (Bd.jar s 0).cap from hu), if_pos (show pk 0 t r (u + q.2) (max b (u + q.2)) > s by omega)]
      rfl
    · rw [if_neg (show ¬ ((0, u) : Int × Int).2 + q.2 > (Bd.jar s 0).cap from hu)]
      show runW (.jar s 0) t r (0, u + q.2) = _
      rw [run0 s t r (u + q.2) (max b (u + q.2)) (by omega), List.map_cons, List.sum_cons, Int.add_assoc]
theorem runP {s f t : Int} (hf : 0 < f) : ∀ (r : List (Int × Int)) (u b fd : Int), Upto r t → fd = max 0 ((b - s + f - 1) / f) → ∃ U, runW (.jar s f) t r (fd, u) = some (max 0 ((pk f t r u b - s + f - 1) / f), U)
  | [], u, b, fd, _, h => ⟨u, by rw [h]; rfl⟩
  | q :: r, u, b, fd, hq, h => by
    have hm := hq q List.mem_cons_self
    have hr : Upto r t := fun x hx => hq x (List.mem_cons_of_mem _ hx)
    have hprod : 0 ≤ f * (t - q.1) := Int.mul_nonneg (by omega) (by omega)
    have key : ∀ fd', fd' = max 0 ((max b (u + q.2 - f * (t - q.1)) - s + f - 1) / f) → turnW (.jar s f) t q (fd, u) = some (fd', u + q.2) → ∃ U, runW (.jar s f) t (q :: r) (fd, u) = some (max 0 ((pk f t (q :: r) u b - s + f - 1) / f), U) := fun fd' e1 e2 => by
      obtain ⟨U, z⟩ := runP hf r (u + q.2) (max b (u + q.2 - f * (t - q.1))) fd' hr e1
      exact ⟨U, by rw [runW, e2]; exact z⟩
    have em : max b (u + q.2 - f * (t - q.1)) - s = max (b - s) (u + q.2 - s - f * (t - q.1)) := by omega
    by_cases hu : u + q.2 > s
    · refine key (max fd (q.1 + (u + q.2 - s + f - 1) / f - t)) ?_ ?_
      · rw [em, cd_max hf, cd_shift hf, h]
        omega
      · unfold turnW
        rw [if_pos (show ((fd, u) : Int × Int).2 + q.2 > (Bd.jar s f).cap from hu)]
        show (if f = 0 then none else some (max fd (q.1 + (u + q.2 - s + f - 1) / f - t), u + q.2)) = _
        rw [if_neg (by omega)]
    · refine key fd ?_ ?_
      · rw [em, cd_max hf, h]
        have z := cd_low hf (show u + q.2 - s - f * (t - q.1) ≤ 0 by omega)
        omega
      · unfold turnW
        rw [if_neg (show ¬ ((fd, u) : Int × Int).2 + q.2 > (Bd.jar s f).cap from hu)]
theorem due_jar {s f l t c : Int} {m : Option Int} {vs : List (Int × Int)} (h : JRel f vs l m) (hu : Upto vs t) (hf : 0 ≤ f) : dueV (.jar s f) vs t c = waitJ s f l m t c := by
  unfold dueV waitJ
  by_cases hc : c > s
  · rw [if_pos (show c > (Bd.jar s f).cap from hc), if_pos hc]
  · rw [if_neg (show ¬ c > (Bd.jar s f).cap from hc), if_neg hc]
    have e1 : pk f t vs.reverse c c = levV f l m t + c := by
      have z := pk_u f t c vs.reverse 0 0
      rw [Int.zero_add, ← h.lev t hu] at z
      exact z
    have hur : Upto vs.reverse t := fun q hq => hu q (List.mem_reverse.mp hq)
    by_cases h0 : f = 0
    · subst h0
      rw [run0 s t vs.reverse c c (by omega), e1]
      by_cases hx : levV 0 l m t + c > s
      · rw [if_pos hx, if_neg (by omega), if_pos rfl]
      · rw [if_neg hx, if_pos (by omega)]
    · have hf' : 0 < f := by omega
      obtain ⟨U, z⟩ := runP (s := s) hf' vs.reverse c c 0 hur (by
        have := cd_low (f := f) (x := c - s) hf' (by omega)
        omega)
      rw [z, e1]
      show some (max 0 ((levV f l m t + c - s + f - 1) / f)) = _
      by_cases hx : levV f l m t + c - s ≤ 0
      · have := cd_low hf' hx
        rw [if_pos hx]
        congr 1
        omega
      · have := cd_up hf' (show 0 < levV f l m t + c - s by omega)
        rw [if_neg hx, if_neg h0]
        congr 1
        omega
theorem wait_can {s f l t c : Int} {m : Option Int} (hf : 0 ≤ f) : waitJ s f l m t c = some 0 ↔ levV f l m t + c ≤ s := by
  have l0 := lev_nn f l m t
  unfold waitJ
  by_cases hc : c > s
  · rw [if_pos hc]
    exact ⟨fun h => (by cases h), fun h => by omega⟩
  · rw [if_neg hc]
    by_cases hx : levV f l m t + c - s ≤ 0
    · rw [if_pos hx]
      exact ⟨fun _ => by omega, fun _ => rfl⟩
    · rw [if_neg hx]
      by_cases h0 : f = 0
      · rw [if_pos h0]
        exact ⟨fun h => (by cases h), fun h => by omega⟩
      · rw [if_neg h0]
        have := cd_up (show 0 < f by omega) (show 0 < levV f l m t + c - s by omega)
        exact ⟨fun h => by
          have := Option.some.inj h
          omega, fun h => by omega⟩
theorem wait_nn {s f l t c w : Int} {m : Option Int} (hf : 0 ≤ f) (h : waitJ s f l m t c = some w) : 0 ≤ w := by
  unfold waitJ at h
  split at h
  · cases h
  · split at h
    · cases h; omega
    · split at h
      · cases h
      · cases h
        rename_i h1 h2 h3
        have := cd_up (show 0 < f by omega) (show 0 < levV f l m t + c - s by omega)
        omega
/-- behind its wait it can -/
theorem wait_after {s f l t c w : Int} {m : Option Int} (hf : 0 ≤ f) (h : waitJ s f l m t c = some w) : waitJ s f l m (t + w) c = some 0 := by
  rw [wait_can hf]
  have hw := wait_nn hf h
  unfold waitJ at h
  split at h
  · cases h
  · rename_i hc
    split at h
    · rename_i h1
      cases h
      rw [Int.add_zero]
      omega
    · rename_i h1
      split at h
      · cases h
      · rename_i h3
        have hf' : 0 < f := by omega
        have z := cd_mul (f := f) (x := levV f l m t + c - s) hf'
        rw [Option.some.inj h] at z
        unfold levV at z h1 ⊢
        by_cases hl : l = 0
        · rw [if_pos hl] at h1
          omega
        · rw [if_neg hl] at z h1 ⊢
          have e : f * (t + w - m.getD 0) = f * (t - m.getD 0) + f * w := by rw [← Int.mul_add]; congr 1; omega
          rw [e]
          omega
/-! the mathematics of the window -/
def pre (vs : List (Int × Int)) (i : Nat) : Int := ((vs.take i).map (·.2)).sum
def tots : Int → List (Int × Int) → List (Int × Int)
  | _, [] => []
  | a, q :: r => (q.1, a + q.2) :: tots (a + q.2) r
theorem tots_len : ∀ (a : Int) (vs : List (Int × Int)), (tots a vs).length = vs.length
  | _, [] => rfl
  | a, q :: r => by rw [tots, List.length_cons, List.length_cons, tots_len]
theorem pre_zero (vs : List (Int × Int)) : pre vs 0 = 0 := rfl
theorem pre_cons (q : Int × Int) (r : List (Int × Int)) (i : Nat) : pre (q :: r) (i + 1) = q.2 + pre r i := by
  unfold pre
  rw [List.take_succ_cons, List.map_cons, List.sum_cons]
theorem tots_at : ∀ (a : Int) (vs : List (Int × Int)) (i : Nat), i < vs.length → (tots a vs).getD i (0, 0) = ((vs.getD i (0, 0)).1, a + pre vs (i + 1))
  | _, [], _, h => absurd h (Nat.not_lt_zero _)
  | a, q :: r, 0, _ => by
    show (q.1, a + q.2) = (q.1, a + pre (q :: r) 1)
    rw [pre_cons, pre_zero, Int.add_zero]
  | a, q :: r, i + 1, h => by
    show (tots (a + q.2) r).getD i (0, 0) = ((r.getD i (0, 0)).1, a + pre (q :: r) (i + 1 + 1))
    rw [tots_at (a + q.2) r i (Nat.lt_of_succ_lt_succ h), pre_cons, Int.add_assoc]
theorem tots_snoc : ∀ (a : Int) (vs : List (Int × Int)) (q : Int × Int), tots a (vs ++ [q]) = tots a vs ++ [(q.1, a + pre vs vs.length + q.2)]
  | a, [], q => by
    show [(q.1, a + q.2)] = [(q.1, a + 0 + q.2)]
    rw [Int.add_zero]
  | a, x :: r, q => by
    show (x.1, a + x.2) :: tots (a + x.2) (r ++ [q]) = (x.1, a + x.2) :: (tots (a + x.2) r ++ [_])
    rw [tots_snoc, List.length_cons, pre_cons, show a + x.2 + pre r r.length + q.2 = a + (x.2 + pre r r.length) + q.2 by omega]
theorem pre_succ : ∀ (vs : List (Int × Int)) (i : Nat), i < vs.length → pre vs (i + 1) = pre vs i + (vs.getD i (0, 0)).2
  | [], _, h => absurd h (Nat.not_lt_zero _)
  | q :: r, 0, _ => by
    rw [pre_cons, pre_zero, pre_zero]
    show q.2 + 0 = 0 + q.2
    omega
  | q :: r, i + 1, h => by
    rw [pre_cons, pre_cons, pre_succ r i (Nat.lt_of_succ_lt_succ h)]
    show q.2 + (pre r i + (r.getD i (0, 0)).2) = q.2 + pre r i + (r.getD i (0, 0)).2
    omega
theorem pre_all (vs ws : List (Int × Int)) : ∀ i, i ≤ vs.length → pre (vs ++ ws) i = pre vs i := fun i h => by
  unfold pre
  rw [List.take_append_of_le_length h]
/-- costs are at least one; moments rise -/
structure VOk (vs : List (Int × Int)) : Prop where
  cost : ∀ i, i < vs.length → 1 ≤ (vs.getD i (0, 0)).2
  rise : ∀ i j, i ≤ j → j < vs.length → (vs.getD i (0, 0)).1 ≤ (vs.getD j (0, 0)).1
theorem pre_lt {vs : List (Int × Int)} (h : VOk vs) : ∀ {i j : Nat}, i < j → j ≤ vs.length → pre vs i < pre vs j := fun {i j} hij hj => by
  induction j with
  | zero => exact absurd hij (Nat.not_lt_zero _)
  | succ j ih =>
    have hc := h.cost j hj
    rw [pre_succ vs j hj]
    by_cases e : i = j
    · subst e; omega
    · have := ih (by omega) (by omega)
      omega
theorem pre_le {vs : List (Int × Int)} (h : VOk vs) {i j : Nat} (hij : i ≤ j) (hj : j ≤ vs.length) : pre vs i ≤ pre vs j := by
  by_cases e : i = j
  · subst e; exact Int.le_refl _
  · exact Int.le_of_lt (pre_lt h (by omega) hj)
theorem runWin {m s t : Int} : ∀ (r : List (Int × Int)) (fd u : Int), ∃ F U, runW (.win m s) t r (fd, u) = some (F, U) ∧ fd ≤ F ∧
    (∀ k, k < r.length → u + pre r (k + 1) > m → (r.getD k (0, 0)).1 + s - t ≤ F) ∧ (F = fd ∨ ∃ k, k < r.length ∧ u + pre r (k + 1) > m ∧ F = (r.getD k (0, 0)).1 + s - t)
  | [], fd, u => ⟨fd, u, rfl, Int.le_refl _, fun _ h => absurd h (Nat.not_lt_zero _), .inl rfl⟩
  | q :: r, fd, u => by
    by_cases hu : u + q.2 > m
    · obtain ⟨F, U, h1, h2, h3, h4⟩ := runWin (m := m) (s := s) (t := t) r (max fd (q.1 + s - t)) (u + q.2)
      refine ⟨F, U, ?_, by omega, fun k hk hp => ?_, ?_⟩
      · rw [runW, turnW, if_pos (show ((fd, u) : Int × Int).2 + q.2 > (Bd.win m s).cap from hu)]
        exact h1
      · cases k with
        | zero =>
          show q.1 + s - t ≤ F
          omega
        | succ k =>
          rw [pre_cons] at hp
          exact h3 k (Nat.lt_of_succ_lt_succ hk) (by omega)
      · rcases h4 with h4 | ⟨k, k1, k2, k3⟩
        · rcases Int.le_total fd (q.1 + s - t) with hle | hle
          · refine .inr ⟨0, Nat.succ_pos _, ?_, ?_⟩
            · rw [pre_cons, pre_zero]
              omega
            · show F = q.1 + s - t
              omega
          · exact .inl (by omega)
        · refine .inr ⟨k + 1, Nat.succ_lt_succ k1, ?_, k3⟩
          rw [pre_cons]
          omega
    · obtain ⟨F, U, h1, h2, h3, h4⟩ := runWin (m := m) (s := s) (t := t) r fd (u + q.2)
      refine ⟨F, U, ?_, h2, fun k hk hp => ?_, ?_⟩
      · rw [runW, turnW, if_neg (show ¬ ((fd, u) : Int × Int).2 + q.2 > (Bd.win m s).cap from hu)]
        exact h1
      · cases k with
        | zero =>
          rw [pre_cons, pre_zero] at hp
          omega
        | succ k =>
          rw [pre_cons] at hp
          exact h3 k (Nat.lt_of_succ_lt_succ hk) (by omega)
      · rcases h4 with h4 | ⟨k, k1, k2, k3⟩
        · exact .inl h4
        · refine .inr ⟨k + 1, Nat.succ_lt_succ k1, ?_, k3⟩
          rw [pre_cons]
          omega
theorem sum_rev (l : List Int) : l.reverse.sum = l.sum := by
  induction l with
  | nil => rfl
  | cons a l ih =>
    rw [List.reverse_cons, List.sum_append, List.sum_cons, ih]
    simp [Int.add_comm]
theorem pre_rev (vs : List (Int × Int)) (k : Nat) (hk : k ≤ vs.length) : pre vs.reverse k = pre vs vs.length - pre vs (vs.length - k) := by
  have e1 : pre vs.reverse k = ((vs.drop (vs.length - k)).map (·.2)).sum := by
    unfold pre
    rw [List.take_reverse, List.map_reverse, sum_rev]
  have e2 : pre vs vs.length = pre vs (vs.length - k) + ((vs.drop (vs.length - k)).map (·.2)).sum := by
    unfold pre
    rw [← List.sum_append, ← List.map_append, List.take_append_drop, List.take_length]
  omega
theorem rev_getD (vs : List (Int × Int)) (k : Nat) (hk : k < vs.length) : vs.reverse.getD k (0, 0) = vs.getD (vs.length - 1 - k) (0, 0) := by
  have z := rev_at hk
  rw [getD_some (show vs.length - 1 - k < vs.length by omega)] at z
  exact (Option.some.inj z).symm
/-- the law's wait by a window -/
theorem due_win (m s : Int) (vs : List (Int × Int)) (t c : Int) (hc : ¬ c > m) : ∃ F, dueV (.win m s) vs t c = some F ∧ 0 ≤ F ∧
    (∀ i, i < vs.length → pre vs i < pre vs vs.length + c - m → (vs.getD i (0, 0)).1 + s - t ≤ F) ∧ (F = 0 ∨ ∃ i, i < vs.length ∧ pre vs i < pre vs vs.length + c - m ∧ F = (vs.getD i (0, 0)).1 + s - t) := by
  obtain ⟨F, U, h1, h2, h3, h4⟩ := runWin (m := m) (s := s) (t := t) vs.reverse 0 c
  rw [List.length_reverse] at h3 h4
  refine ⟨F, ?_, h2, fun i hi hp => ?_, ?_⟩
  · unfold dueV
    rw [if_neg (show ¬ c > (Bd.win m s).cap from hc), h1]
  · have z := h3 (vs.length - 1 - i) (by omega) (by
      rw [pre_rev vs _ (by omega), show vs.length - (vs.length - 1 - i + 1) = i by omega]
      omega)
    rw [rev_getD vs _ (by omega), show vs.length - 1 - (vs.length - 1 - i) = i by omega] at z
    exact z
  · rcases h4 with h4 | ⟨k, k1, k2, k3⟩
    · exact .inl h4
    · refine .inr ⟨vs.length - 1 - k, by omega, ?_, ?_⟩
      · rw [pre_rev vs _ (by omega), show vs.length - (k + 1) = vs.length - 1 - k by omega] at k2
        omega
      · rw [rev_getD vs k k1] at k3
        exact k3
structure WRel (s : Int) (vs : List (Int × Int)) (g tot : Int) (rs : List (Int × Int)) : Prop where
  ex : ∃ d, d ≤ vs.length ∧ rs = (tots 0 vs).drop d ∧ g = pre vs d ∧ tot = pre vs vs.length ∧ (∀ i j, i < d → j = vs.length - 1 → (vs.getD i (0, 0)).1 + s ≤ (vs.getD j (0, 0)).1) ∧ (∀ i j, d ≤ i → i < vs.length → j = vs.length - 1 → (vs.getD j (0, 0)).1 < (vs.getD i (0, 0)).1 + s)
theorem wrel_nil (s : Int) : WRel s [] 0 0 [] := ⟨0, Nat.le_refl _, rfl, rfl, rfl, fun _ _ h => absurd h (Nat.not_lt_zero _), fun _ _ _ h => absurd h (Nat.not_lt_zero _)⟩
theorem drop_getD (l : List (Int × Int)) (d i : Nat) : (l.drop d).getD i (0, 0) = l.getD (d + i) (0, 0) := by
  rw [List.getD_eq_getElem?_getD, List.getElem?_drop, ← List.getD_eq_getElem?_getD]
theorem WRel.row {s : Int} {vs : List (Int × Int)} {g tot : Int} {rs : List (Int × Int)} {d : Nat} (hrs : rs = (tots 0 vs).drop d) {i : Nat} (hi : d + i < vs.length) : rs.getD i (0, 0) = ((vs.getD (d + i) (0, 0)).1, pre vs (d + i + 1)) := by
  rw [hrs, drop_getD, tots_at 0 vs _ hi, Int.zero_add]
theorem WRel.wok {s : Int} {vs : List (Int × Int)} {g tot : Int} {rs : List (Int × Int)} (h : WRel s vs g tot rs) (hv : VOk vs) (hn : vs.length ≤ 1000) : WOk g tot rs := by
  obtain ⟨d, hd, hrs, hg, ht, _, _⟩ := h.ex
  have hl : rs.length = vs.length - d := by rw [hrs, List.length_drop, tots_len]
  refine ⟨fun i j hij hj => ?_, fun e => ?_, fun e => ?_, by omega⟩
  · rw [WRel.row hrs (s := s) (g := g) (tot := tot) (by omega), WRel.row hrs (s := s) (g := g) (tot := tot) (by omega)]
    exact pre_le hv (by omega) (by omega)
  · rw [e] at hl
    have : d = vs.length := by
      have : ([] : List (Int × Int)).length = 0 := rfl
      omega
    rw [hg, ht, this]
    exact Int.le_refl _
  · have hp := List.length_pos_iff.mpr e
    rw [WRel.row hrs (s := s) (g := g) (tot := tot) (by omega), ht, show d + (rs.length - 1) + 1 = vs.length by omega]
    exact Int.le_refl _
theorem due_win_is {m s g tot t c : Int} {vs rs : List (Int × Int)} (h : WRel s vs g tot rs) (hv : VOk vs) (hu : Upto vs t) (hc : 1 ≤ c) : dueV (.win m s) vs t c = waitW m s g tot rs t c := by
  by_cases hcm : c > m
  · unfold dueV waitW
    rw [if_pos (show c > (Bd.win m s).cap from hcm), if_pos hcm]
  · obtain ⟨F, e, f0, f1, f2⟩ := due_win m s vs t c hcm
    obtain ⟨d, hd, hrs, hg, ht, ho, _⟩ := h.ex
    have hl : rs.length = vs.length - d := by rw [hrs, List.length_drop, tots_len]
    rw [e]
    unfold waitW
    rw [if_neg hcm]
    by_cases hdue : tot + c - m ≤ g
    · rw [if_pos hdue]
      rcases f2 with f2 | ⟨i, i1, i2, i3⟩
      · rw [f2]
      · have hid : i < d := by
          refine Nat.lt_of_not_le fun hle => ?_
          have := pre_le hv hle (by omega)
          omega
        have hlast := ho i (vs.length - 1) hid rfl
        have hm := hu (vs.getD (vs.length - 1) (0, 0)) (by
          rw [List.getD_eq_getElem?_getD, List.getElem?_eq_getElem (by omega)]
          exact List.getElem_mem _)
        congr 1
        omega
    · rw [if_neg hdue]
      have ok := fun hn => h.wok hv (hn : vs.length ≤ 1000)
      have hdn : d < vs.length := by
        refine Nat.lt_of_not_le fun hle => ?_
        have : d = vs.length := by omega
        rw [this] at hg
        omega
      have hne : rs ≠ [] := fun z => by
        rw [z] at hl
        have : ([] : List (Int × Int)).length = 0 := rfl
        omega
      have hlt : firstGe rs (tot + c - m) < rs.length := firstGe_lt hne (by
        rw [WRel.row hrs (s := s) (g := g) (tot := tot) (by omega), show d + (rs.length - 1) + 1 = vs.length by omega]
        show tot + c - m ≤ pre vs vs.length
        omega)
      have hge := firstGe_ge hlt
      have hrow := WRel.row hrs (s := s) (g := g) (tot := tot) (i := firstGe rs (tot + c - m)) (by omega)
      rw [hrow] at hge ⊢
      have hbefore : pre vs (d + firstGe rs (tot + c - m)) < tot + c - m := by
        by_cases hz : firstGe rs (tot + c - m) = 0
        · rw [hz, Nat.add_zero, ← hg]
          omega
        · have hb := firstGe_before (rs := rs) (due := tot + c - m) (i := firstGe rs (tot + c - m) - 1) (by omega)
          rw [WRel.row hrs (s := s) (g := g) (tot := tot) (by omega), show d + (firstGe rs (tot + c - m) - 1) + 1 = d + firstGe rs (tot + c - m) by omega] at hb
          exact hb
      generalize firstGe rs (tot + c - m) = j at *
      have h1 := f1 (d + j) (by omega) (by omega)
      congr 1
      rcases f2 with f2 | ⟨i, i1, i2, i3⟩
      · show F = max 0 ((vs.getD (d + j) (0, 0)).1 + s - t)
        omega
      · have hij : i ≤ d + j := by
          refine Nat.le_of_not_lt fun hlt2 => ?_
          have := pre_le hv (show d + j + 1 ≤ i by omega) (by omega)
          have hge' : tot + c - m ≤ pre vs (d + j + 1) := hge
          omega
        have hr := hv.rise i (d + j) hij (by omega)
        show F = max 0 ((vs.getD (d + j) (0, 0)).1 + s - t)
        omega
theorem waitW_nn {m s g tot t c w : Int} {rs : List (Int × Int)} (h : waitW m s g tot rs t c = some w) : 0 ≤ w := by
  unfold waitW at h
  split at h
  · cases h
  · split at h <;> (cases h; omega)
theorem waitW_after {m s g tot t c w : Int} {rs : List (Int × Int)} (h : waitW m s g tot rs t c = some w) : waitW m s g tot rs (t + w) c = some 0 := by
  unfold waitW at h ⊢
  by_cases h1 : c > m
  · rw [if_pos h1] at h; cases h
  · rw [if_neg h1] at h ⊢
    by_cases h2 : tot + c - m ≤ g
    · rw [if_pos h2]
    · rw [if_neg h2] at h ⊢
      have := Option.some.inj h
      congr 1
      omega
theorem getD_snoc_lt (vs : List (Int × Int)) (q : Int × Int) {i : Nat} (h : i < vs.length) : (vs ++ [q]).getD i (0, 0) = vs.getD i (0, 0) := by
  rw [List.getD_eq_getElem?_getD, List.getD_eq_getElem?_getD, List.getElem?_append_left h]
theorem getD_snoc_eq (vs : List (Int × Int)) (q : Int × Int) : (vs ++ [q]).getD vs.length (0, 0) = q := by
  rw [List.getD_eq_getElem?_getD, List.getElem?_append_right (Nat.le_refl _), Nat.sub_self]
  rfl
theorem VOk.snoc {vs : List (Int × Int)} {t c : Int} (h : VOk vs) (hu : Upto vs t) (hc : 1 ≤ c) : VOk (vs ++ [(t, c)]) := by
  refine ⟨fun i hi => ?_, fun i j hij hj => ?_⟩
  · rw [List.length_append] at hi
    by_cases e : i = vs.length
    · subst e
      rw [getD_snoc_eq]
      exact hc
    · rw [getD_snoc_lt vs _ (by have : [(t, c)].length = 1 := rfl; omega)]
      exact h.cost i (by have : [(t, c)].length = 1 := rfl; omega)
  · rw [List.length_append] at hj
    have l1 : [(t, c)].length = 1 := rfl
    by_cases e : j = vs.length
    · subst e
      rw [getD_snoc_eq]
      by_cases e2 : i = vs.length
      · subst e2
        rw [getD_snoc_eq]
        exact Int.le_refl _
      · rw [getD_snoc_lt vs _ (by omega)]
        refine hu _ ?_
        rw [List.getD_eq_getElem?_getD, List.getElem?_eq_getElem (by omega)]
        exact List.getElem_mem _
    · rw [getD_snoc_lt vs _ (by omega), getD_snoc_lt vs _ (by omega)]
      exact h.rise i j hij (by omega)
theorem upto_snoc {vs : List (Int × Int)} {t c : Int} (h : Upto vs t) : Upto (vs ++ [(t, c)]) t := fun q hq => by
  rcases List.mem_append.mp hq with hq | hq
  · exact h q hq
  · rw [List.mem_singleton.mp hq]
    exact Int.le_refl _
theorem wrel_take {s g tot t c : Int} {vs rs : List (Int × Int)} (h : WRel s vs g tot rs) (hv : VOk vs) (hu : Upto vs t) (hs : 1 ≤ s) : WRel s (vs ++ [(t, c)]) (goneV rs (oldN rs (t - s)) g) (tot + c) (rs.drop (oldN rs (t - s)) ++ [(t, tot + c)]) := by
  obtain ⟨d, hd, hrs, hg, ht, ho, hk⟩ := h.ex
  have hl : rs.length = vs.length - d := by rw [hrs, List.length_drop, tots_len]
  have hle := oldN_le rs (t - s)
  have l1 : (vs ++ [(t, c)]).length = vs.length + 1 := by rw [List.length_append]; rfl
  refine ⟨d + oldN rs (t - s), by omega, ?_, ?_, ?_, fun i j hi hj => ?_, fun i j hi hi2 hj => ?_⟩
  · rw [tots_snoc, List.drop_append_of_le_length (by rw [tots_len]; omega), hrs, List.drop_drop, ← hrs, Int.zero_add, ht]
  · rw [pre_all _ _ _ (by omega)]
    unfold goneV
    by_cases e : oldN rs (t - s) = 0
    · rw [if_pos e, e, Nat.add_zero]
      exact hg
    · rw [if_neg e, WRel.row hrs (s := s) (g := g) (tot := tot) (by omega)]
      show pre vs (d + (oldN rs (t - s) - 1) + 1) = _
      rw [show d + (oldN rs (t - s) - 1) + 1 = d + oldN rs (t - s) by omega]
  · rw [l1, pre_succ _ _ (by omega), getD_snoc_eq, pre_all _ _ _ (Nat.le_refl _), ht]
  · rw [hj, l1, Nat.add_sub_cancel, getD_snoc_eq, getD_snoc_lt vs _ (by omega)]
    show (vs.getD i (0, 0)).1 + s ≤ t
    by_cases e : i < d
    · have z := ho i (vs.length - 1) e rfl
      have hm := hu (vs.getD (vs.length - 1) (0, 0)) (by
        rw [List.getD_eq_getElem?_getD, List.getElem?_eq_getElem (by omega)]
        exact List.getElem_mem _)
      omega
    · have z := oldN_in rs (t - s) (i - d) (by omega)
      rw [WRel.row hrs (s := s) (g := g) (tot := tot) (by omega), show d + (i - d) = i by omega] at z
      have z : (vs.getD i (0, 0)).1 ≤ t - s := z
      omega
  · rw [hj, l1, Nat.add_sub_cancel, getD_snoc_eq]
    show t < _
    by_cases e : i = vs.length
    · rw [e, getD_snoc_eq]
      show t < t + s
      omega
    · rw [getD_snoc_lt vs _ (by omega)]
      have z := oldN_out rs (t - s) (by omega)
      rw [WRel.row hrs (s := s) (g := g) (tot := tot) (by omega)] at z
      have z : ¬ (vs.getD (d + oldN rs (t - s)) (0, 0)).1 ≤ t - s := z
      have r := hv.rise (d + oldN rs (t - s)) i hi (by omega)
      omega
theorem wrel_kept {s g tot : Int} {vs rs : List (Int × Int)} (h : WRel s vs g tot rs) : rs.length ≤ (vs.filter fun q => decide (q.1 > (vs.getD (vs.length - 1) (0, 0)).1 - s)).length := by
  obtain ⟨d, hd, hrs, hg, ht, ho, hk⟩ := h.ex
  have hl : rs.length = (vs.drop d).length := by rw [hrs, List.length_drop, tots_len, List.length_drop]
  have e : ∀ L, (vs.drop d).filter (fun q => decide (q.1 > L)) = vs.drop d → (vs.drop d).length ≤ (vs.filter fun q => decide (q.1 > L)).length := fun L e => by
    have z : (vs.filter fun q => decide (q.1 > L)) = ((vs.take d).filter fun q => decide (q.1 > L)) ++ ((vs.drop d).filter fun q => decide (q.1 > L)) := by rw [← List.filter_append, List.take_append_drop]
    rw [z, e, List.length_append]
    omega
  rw [hl]
  refine e _ (List.filter_eq_self.mpr fun q hq => ?_)
  obtain ⟨i, hi⟩ := List.getElem?_of_mem hq
  rw [List.getElem?_drop] at hi
  obtain ⟨hlt, he⟩ := List.getElem?_eq_some_iff.mp hi
  have z := hk (d + i) (vs.length - 1) (by omega) hlt rfl
  rw [List.getD_eq_getElem?_getD (l := vs) (i := d + i), hi] at z
  have z : _ < q.1 + s := z
  exact decide_eq_true (by omega)
/-! the law's comparison of two answers -/
def RSame (vs : List V) (_ : Hp) (v : V) : Prop := ∃ a b : Option Int, vs = [opV a, opV b] ∧ v = .bl (decide (a = b))
theorem rSame {H : Hp} (a b : Option Int) : ∀ H1, Ex H H1 → RSame [opV a, opV b] H1 (.bl (decide (a = b))) := fun _ _ => ⟨a, b, rfl, rfl⟩
theorem kni {K : PySem.W.Frag} : PySem.W.kitOne K (.type "NoneType") (.type "int") = some false := kit_ty (by decide +kernel)
section
variable {P : Program} {w : World} {K : PySem.W.Frag} {mg : Str → Option Value} {base : Heap}
theorem cal_Lsame {f : Addr} {fd : FuncData} (T : Blt mg) (F : C8.Def K mg "_law_same" s_Lsame f fd) (b : Binds K fd ["_law_found", "_law_due"] []) : C8.Cal P w K mg base 1 "_law_same" (spF RSame) [] := by
  refine calF F b sc_Lsame (fun vs H v h => ?_) (fun cdv A outer s H vs v E hr h => ?_)
  · obtain ⟨x, y, rfl, _⟩ := h
    rfl
  · obtain ⟨x, y, rfl, rfl⟩ := h
    refine ⟨_, (pss_cons (ps_if (pt_cmp (pc_isN (pv 1)))
    (pss_one (ps_ret (pe_cmp (pc_isN (pv 0)) rfl)))
    pss_nil)
  (pss_one (ps_ret (pe_and (pe_callB call_isi (by rfl) T.b_isinstance boot_isinstance (pa_cons (pv 0) (pa_cons (pe_bltn (v := .ty "int") (by rfl) T.b_int boot_int rfl) pa_nil))) (pe_and (pe_not (pe_callB call_isi (by rfl) T.b_isinstance boot_isinstance (pa_cons (pv 0) (pa_cons (pe_bltn (v := .ty "bool") (by rfl) T.b_bool boot_bool rfl) pa_nil)))) (pe_one (pe_cmpR op_eq (pv 0) (pv 1) (nomark _)))))))), ?_⟩
    cases y with
    | none =>
      refine rt_ifseq (b := true) (et_B (ev_isN (ev_var (v := .non) rfl))) (fun _ => ?_) fun z => by cases z
      refine rt_ret (ev_is (ev_isN (ev_var (v := opV x) rfl)) ?_)
      cases x <;> rfl
    | some y =>
      refine rt_ifseq (b := false) (et_B (ev_isN (ev_var (v := .int y) rfl))) (fun z => by cases z) fun _ => ?_
      cases x with
      | none => exact rt_ret (ev_andV (a := false) (b := false) (ev_isi (ev_var (v := .non) rfl) ev_c (.ty "int") (fun _ _ => .base .non) kni) fun z => by cases z)
      | some x =>
        refine rt_ret (ev_is (ev_andV (a := true) (b := decide (V.int x = V.int y)) (ev_isi (ev_var (v := .int x) rfl) ev_c (.ty "int") (tyi x) kii) fun _ => ev_is (ev_andV (a := true) (b := decide (V.int x = V.int y)) (ev_notV (a := false) (ev_isi (ev_var (v := .int x) rfl) ev_c (.ty "bool") (tyi x) kib)) fun _ => ev_op (ev_var (v := .int x) rfl) (ev_var (v := .int y) rfl) (rv_eq rfl)) (by rw [Bool.true_and])) ?_)
        rw [Bool.true_and]
        exact congrArg V.bl (decide_eq_decide.mpr ⟨fun h => by cases h; rfl, fun h => by cases h; rfl⟩)
end
/-! a meter by what it answers, and the law's look at it -/
def keptMax (bd : Bd) (vs : List (Int × Int)) : Int := match bd with
  | .jar _ _ => 0
  | .win _ s => if vs = [] then 0 else ((vs.filter fun q => decide (q.1 > (vs.getD (vs.length - 1) (0, 0)).1 - s)).length : Int)
structure Mtr (C : Addr) (RC RW RK : List V → Hp → V → Prop) (bd : Bd) (vs : List (Int × Int)) (x : Addr) (H : Hp) : Prop where
  ins : ∃ dx fs, H x = some (.ins C dx fs) ∧ fs.lookup ("can" : Str) = none ∧ fs.lookup ("wait" : Str) = none ∧ fs.lookup ("kept" : Str) = none ∧ fs.lookup ("take" : Str) = none
  can : ∀ t c, Upto vs t → 1 ≤ c → ∀ H1, Ex H H1 → RC [.ref x, .int t, .int c] H1 (.bl (decide (dueV bd vs t c = some 0)))
  wait : ∀ t c, Upto vs t → 1 ≤ c → ∀ H1, Ex H H1 → RW [.ref x, .int t, .int c] H1 (opV (dueV bd vs t c))
  kept : ∃ n : Nat, (∀ H1, Ex H H1 → RK [.ref x] H1 (.int (n : Int))) ∧ (n : Int) ≤ keptMax bd vs
  after : ∀ t c w, Upto vs t → 1 ≤ c → dueV bd vs t c = some w → 0 ≤ w ∧ dueV bd vs (t + w) c = some 0
theorem Mtr.mono {C x : Addr} {RC RW RK : List V → Hp → V → Prop} {bd : Bd} {vs : List (Int × Int)} {H H' : Hp} (e : Ex H H') (h : Mtr C RC RW RK bd vs x H) : Mtr C RC RW RK bd vs x H' := by
  obtain ⟨⟨dx, fs, h1, h2⟩, h3, h4, ⟨n, h5, h6⟩, h7⟩ := h
  exact ⟨⟨dx, fs, e _ _ h1, h2⟩, fun t c a b H1 e1 => h3 t c a b H1 (e.trans e1), fun t c a b H1 e1 => h4 t c a b H1 (e.trans e1), ⟨n, fun H1 e1 => h5 H1 (e.trans e1), h6⟩, h7⟩
structure Vst (H : Hp) (p l : Addr) (bd : Bd) (vis : List (Int × Int)) : Prop where
  hp : H p = some (.tup (Bd.tup bd))
  hP : PairsT H l vis
  hb : ∀ s f, bd = .jar s f → 0 ≤ f ∧ f ≤ 1000000000
  hn : vis.length ≤ 800
theorem Vst.mono {H H' : Hp} {p l : Addr} {bd : Bd} {vis : List (Int × Int)} (e : Ex H H') (h : Vst H p l bd vis) : Vst H' p l bd vis := ⟨e _ _ h.hp, h.hP.mono e, h.hb, h.hn⟩
def RRight (C : Addr) (RC RW RK : List V → Hp → V → Prop) (vs : List V) (H : Hp) (v : V) : Prop := ∃ x p l t c bd vis, vs = [.ref x, .ref p, .ref l, .int t, .int c] ∧ Mtr C RC RW RK bd vis x H ∧ Vst H p l bd vis ∧ Upto vis t ∧ 1 ≤ c ∧ v = .bl true
theorem upto_le {vs : List (Int × Int)} {t t' : Int} (h : Upto vs t) (e : t ≤ t') : Upto vs t' := fun q hq => Int.le_trans (h q hq) e
section
variable {P : Program} {w : World} {K : PySem.W.Frag} {mg : Str → Option Value} {base : Heap}
theorem cal_Lright {f : Addr} {fd : FuncData} {C : Addr} {RC RW RK : List V → Hp → V → Prop} (T : Blt mg) (t_JarMeter_can : C8.Met P w K mg base 3 C "can" (spF RC) []) (t_JarMeter_wait : C8.Met P w K mg base 3 C "wait" (spF RW) []) (c_Lwait : C8.Cal P w K mg base 1 "_law_wait" (spF RWaitL) []) (c_Lsame : C8.Cal P w K mg base 1 "_law_same" (spF RSame) [])
    (F : C8.Def K mg "_law_right" s_Lright f fd) (b : Binds K fd ["_law_meter", "_law_bound_here", "_law_visits", "_law_moment", "_law_cost_here"] []) : C8.Cal P w K mg base 4 "_law_right" (spF (RRight C RC RW RK)) [] := by
  refine calF F b sc_Lright (fun vs H v h => ?_) (fun cdv A outer s H vs v E hr h => ?_)
  · obtain ⟨x, p, l, t, c, bd, vis, rfl, _⟩ := h
    rfl
  · obtain ⟨x, p, l, t, c, bd, vis, rfl, M, S, hu, hc, rfl⟩ := h
    refine ⟨_, (pss_cons (ps_set (i := 5) sc_Lright.nd rfl (Or.inl rfl) (C8.pe_c c_Lwait hr (by decide) rfl (pa_cons (pv 1) (pa_cons (pv 2) (pa_cons (pv 3) (pa_cons (pv 4) pa_nil))))))
  (pss_cons (ps_set (i := 6) sc_Lright.nd rfl (Or.inl rfl) (C8.pe_mt t_JarMeter_can hr (by decide) (pv 0) (pa_cons (pv 3) (pa_cons (pv 4) pa_nil))))
  (pss_cons (ps_if (PW.pt (pw_or (pt_not (pt_val (pe_callB call_isi (by rfl) T.b_isinstance boot_isinstance (pa_cons (pv 6) (pa_cons (pe_bltn (v := .ty "bool") (by rfl) T.b_bool boot_bool rfl) pa_nil))))) (pw_or (pt_cmpR op_ne (pv 6) (pe_cmpR op_eq (pv 5) pe_int (nomark _)) (nomark _)) (pw_or1 (pt_not (pt_val (C8.pe_c c_Lsame hr (by decide) rfl (pa_cons (C8.pe_mt t_JarMeter_wait hr (by decide) (pv 0) (pa_cons (pv 3) (pa_cons (pv 4) pa_nil))) (pa_cons (pv 5) pa_nil)))))))))
    (pss_one (ps_ret pe_bl))
    pss_nil)
  (pss_cons (ps_set (i := 7) sc_Lright.nd rfl (Or.inl rfl) (pe_ifExp (pt_cmp (pc_isN (pv 5))) pe_int (pe_op op_add (pv 5) (pe_op op_mod (pv 4) pe_int))))
  (pss_cons (ps_if (pt_cmpR op_gt (pe_op op_add (pv 3) (pv 7)) (pe_op op_pow pe_int pe_int) (nomark _))
    (pss_one (ps_ret pe_bl))
    pss_nil)
  (pss_cons (ps_if (pt_not (pt_val (C8.pe_c c_Lsame hr (by decide) rfl (pa_cons (C8.pe_mt t_JarMeter_wait hr (by decide) (pv 0) (pa_cons (pe_op op_add (pv 3) (pv 7)) (pa_cons (pv 4) pa_nil))) (pa_cons (C8.pe_c c_Lwait hr (by decide) rfl (pa_cons (pv 1) (pa_cons (pv 2) (pa_cons (pe_op op_add (pv 3) (pv 7)) (pa_cons (pv 4) pa_nil))))) pa_nil)))))
    (pss_one (ps_ret pe_bl))
    pss_nil)
  (pss_one (ps_ret (pe_or (pe_cmp (pc_isN (pv 5)) rfl) (pe_one (pe_cmpR op_isBl (C8.pe_mt t_JarMeter_can hr (by decide) (pv 0) (pa_cons (pe_op op_add (pv 3) (pv 5)) (pa_cons (pv 4) pa_nil))) pe_bl (nomark _)))))))))))), ?_⟩
    obtain ⟨⟨dx, fs, hx, l1, l2, _⟩, mc, mw, _, ma⟩ := M
    have due : ∀ t', t ≤ t' → ∀ H1, Ex H H1 → RWaitL [.ref p, .ref l, .int t', .int c] H1 (opV (dueV bd vis t' c)) := fun t' _ => rWaitL S.hp S.hP S.hb (by have := S.hn; omega)
    refine rt_seq (nx_asg (ev_callF (ea_cons (ev_var rfl) (ea_cons (ev_var rfl) (ea_cons (ev_var rfl) (ea_cons (ev_var rfl) ea_nil)))) (due t (Int.le_refl _)))) ?_
    refine rt_seq (nx_asg (ev_methF (ev_var rfl) hx l1 (ea_cons (ev_var rfl) (ea_cons (ev_var rfl) ea_nil)) (mc t c hu hc))) ?_
    have waitAt : ∀ {σ : L2.St} {te : TE} {t' : Int}, t ≤ t' → σ[0]? = some (some (.ref x)) → Ev te σ H (.int t') → σ[4]? = some (some (.int c)) → Ev (tMeth C "wait" (spF RW) [] C8.E0 (tVar 0) (tCons te (tCons (tVar 4) tNil))) σ H (opV (dueV bd vis t' c)) := fun ht a b d => ev_methF (ev_var a) hx l2 (ea_cons b (ea_cons (ev_var d) ea_nil)) (mw _ c (upto_le hu ht) hc)
    have sameOk : ∀ {σ : L2.St} {ta : TA} {a : Option Int}, EvA ta σ H [opV a, opV a] → EvT (tNot (tB (tCall (spF RSame) [] C8.E0 ta))) σ H false := fun {σ ta a} h => et_not (a := true) (et_B (ev_is (ev_callF h (rSame a a)) (by rw [decide_eq_true rfl])))
    cases hd : dueV bd vis t c with
    | none =>
      have w0 := fun {σ : L2.St} {te : TE} a b d => waitAt (σ := σ) (te := te) (Int.le_refl t) a b d
      rw [hd] at w0
      refine rt_ifseq (b := false) (et_is (et_or (a := false) (b := false) (et_not (a := true) (et_B (ev_isi (ev_var rfl) ev_c (.ty "bool") (tyb _) kbb))) fun _ => et_or (a := false) (b := false) (et_is (et_test (ev_op (ev_var rfl) (ev_op (ev_var (v := .non) rfl) ev_c (rv_eq rfl)) (rv_ne rfl))) ?_) fun _ => sameOk (a := none) (ea_cons (w0 rfl (ev_var rfl) rfl) (ea_cons (ev_var rfl) ea_nil))) rfl) (fun z => by cases z) fun _ => ?_
      · rfl
      · refine rt_seq (nx_asg (v := .int 0) (ev_if (b := true) (et_B (ev_isN (ev_var (v := .non) rfl))) (fun _ => ev_c) fun z => by cases z)) ?_
        apply rt_ifseq
        · exact et_test (ev_op (ev_op (ev_var rfl) (ev_var rfl) rv_I0) (ev_op ev_c ev_c (rv_I ⟨by decide, by decide, by decide⟩)) rv_I0)
        · intro _
          exact rt_ret ev_c
        · intro _
          refine rt_ifseq (b := false) (sameOk (a := none) (ea_cons (w0 rfl (ev_is (ev_op (ev_var rfl) (ev_var rfl) rv_I0) (by rw [Int.add_zero])) rfl) (ea_cons ?_ ea_nil))) (fun z => by cases z) fun _ => ?_
          · have z := due t (Int.le_refl _)
            rw [hd] at z
            exact ev_callF (ea_cons (ev_var rfl) (ea_cons (ev_var rfl) (ea_cons (ev_is (ev_op (ev_var rfl) (ev_var rfl) rv_I0) (by rw [Int.add_zero])) (ea_cons (ev_var rfl) ea_nil)))) z
          · exact rt_ret (ev_orV (a := true) (b := true) (ev_isN (ev_var (v := .non) rfl)) fun z => by cases z)
    | some n =>
      have w0 := fun {σ : L2.St} {te : TE} a b d => waitAt (σ := σ) (te := te) (Int.le_refl t) a b d
      rw [hd] at w0
      obtain ⟨n0, n1⟩ := ma t c n hu hc hd
      have c0 : 0 ≤ c % 3 := Int.emod_nonneg _ (by decide)
      refine rt_ifseq (b := false) (et_is (et_or (a := false) (b := false) (et_not (a := true) (et_B (ev_isi (ev_var rfl) ev_c (.ty "bool") (tyb _) kbb))) fun _ => et_or (a := false) (b := false) (et_is (et_test (ev_op (ev_var rfl) (ev_op (ev_var (v := .int n) rfl) ev_c (rv_eq rfl)) (rv_ne rfl))) ?_) fun _ => sameOk (a := some n) (ea_cons (w0 rfl (ev_var rfl) rfl) (ea_cons (ev_var rfl) ea_nil))) rfl) (fun z => by cases z) fun _ => ?_
      · have e : decide (some n = some (0 : Int)) = decide (V.int n = V.int 0) := decide_eq_decide.mpr ⟨fun h => by cases h; rfl, fun h => by cases h; rfl⟩
        rw [e, decide_eq_true rfl]
        rfl
      · refine rt_seq (nx_asg (v := .int (n + c % 3)) (ev_if (b := false) (et_B (ev_isN (ev_var (v := .int n) rfl))) (fun z => by cases z) fun _ => ev_op (ev_var (v := .int n) rfl) (ev_op (ev_var rfl) ev_c (rv_I (by decide))) rv_I0)) ?_
        apply rt_ifseq
        · exact et_test (ev_op (ev_op (ev_var rfl) (ev_var rfl) rv_I0) (ev_op ev_c ev_c (rv_I ⟨by decide, by decide, by decide⟩)) rv_I0)
        · intro _
          exact rt_ret ev_c
        · intro _
          have hle : t ≤ t + (n + c % 3) := by omega
          refine rt_ifseq (b := false) (sameOk (a := dueV bd vis (t + (n + c % 3)) c) (ea_cons (waitAt hle rfl (ev_op (ev_var rfl) (ev_var rfl) rv_I0) rfl) (ea_cons (ev_callF (ea_cons (ev_var rfl) (ea_cons (ev_var rfl) (ea_cons (ev_op (ev_var rfl) (ev_var rfl) rv_I0) (ea_cons (ev_var rfl) ea_nil)))) (due _ hle)) ea_nil))) (fun z => by cases z) fun _ => ?_
          have can2 := mc (t + n) c (upto_le hu (by omega)) hc
          rw [n1, decide_eq_true rfl] at can2
          exact rt_ret (ev_orV (a := false) (b := true) (ev_isN (ev_var (v := .int n) rfl)) fun _ => ev_op (ev_methF (ev_var rfl) hx l1 (ea_cons (ev_op (ev_var rfl) (ev_var (v := .int n) rfl) rv_I0) (ea_cons (ev_var rfl) ea_nil)) can2) ev_c rv_isB)
end
/-! the law's look at what a meter keeps -/
theorem dp_pairs {K : PySem.W.Frag} {H : Hp} {ps : List Addr} {vs : List (Int × Int)} (h : Prs H ps vs) : DpAll K H (ps.map V.ref) (vs.map fun q => PyData.tuple ([q.1, q.2].map PyData.int)) := by
  induction h with
  | nil => exact .nil
  | @cons p q ps vs h1 _ ih => exact .cons (.tup (st_of h1) (dp_ints [q.1, q.2])) ih
theorem lay_pairs : ∀ vs : List (Int × Int), PyData.canLayAll0 (vs.map fun q => PyData.tuple ([q.1, q.2].map PyData.int)) = true
  | [] => by simp only [List.map_nil, PyData.canLayAll0]
  | q :: vs => by
    rw [List.map_cons]
    simp only [PyData.canLayAll0, PyData.canLay0, lay_ints, lay_pairs vs, Bool.and_self]
theorem dep_pairs : ∀ vs : List (Int × Int), PyData.depthAll (vs.map fun q => PyData.tuple ([q.1, q.2].map PyData.int)) ≤ 1
  | [] => by simp only [List.map_nil, PyData.depthAll]; omega
  | q :: vs => by
    rw [List.map_cons]
    simp only [PyData.depthAll, PyData.depth, dep_ints]
    have := dep_pairs vs
    omega
theorem shaped_pairs (vs : List (Int × Int)) : PySem.SeqAt.shaped (.list (vs.map fun q => PyData.tuple ([q.1, q.2].map PyData.int))) = true := shaped_list (lay_pairs vs) (by have := dep_pairs vs; omega)
theorem eqv_pairs_nil (vs : List (Int × Int)) : PyData.eqv (.list (vs.map fun q => PyData.tuple ([q.1, q.2].map PyData.int))) (.list []) = decide (vs = []) := by
  cases vs with
  | nil => simp [PyData.eqv, PyData.eqvAll]
  | cons q vs => simp [PyData.eqv, PyData.eqvAll]
theorem ev_neNilP {K : PySem.W.Frag} {σ : L2.St} {H : Hp} {ta : TE} {l : Addr} {vs : List (Int × Int)} (ha : Ev ta σ H (.ref l)) (h : PairsT H l vs) : Ev (tOp (rNeD K) ta (tLst tNil)) σ H (.bl (!decide (vs = []))) := by
  obtain ⟨ps, h1, h2⟩ := h
  refine ev_opL (xs := []) ha (el_lst ea_nil (by decide)) fun p H1 hp e => ?_
  rw [← eqv_pairs_nil vs]
  exact rv_neD (fun H2 e2 => .lst (sq_of ((e.trans e2) _ _ h1)) (dp_pairs (h2.mono (e.trans e2)))) (fun H2 e2 => .lst (sq_of (e2 p _ hp)) .nil) (shaped_pairs vs) (shaped_ints [])
theorem filter_range {p : Int × Int → Bool} (vs : List (Int × Int)) : ((List.range vs.length).filter fun i => p (vs.getD i (0, 0))).length = (vs.filter p).length := by
  have e : (List.range vs.length).map (fun i => vs.getD i (0, 0)) = vs := by
    apply List.ext_getElem
    · simp
    · intro i h1 h2
      rw [List.getElem_map, List.getElem_range, List.getD_eq_getElem?_getD, List.getElem?_eq_getElem h2]
      rfl
  have z : (vs.filter p).length = (((List.range vs.length).map (fun i => vs.getD i (0, 0))).filter p).length := by rw [e]
  rw [z, List.filter_map, List.length_map]
  rfl
theorem ev_last0 {K : PySem.W.Frag} {σ : L2.St} {H : Hp} {ta tb : TE} {l : Addr} {vs : List (Int × Int)} (ha : Ev ta σ H (.ref l)) (hb : Ev tb σ H (.int (-1))) (h : PairsT H l vs) (hne : vs ≠ []) : Ev (tOp (rIxT K) (tOp (rIxL K) ta tb) (tC (.int 0))) σ H (.int (vs.getD (vs.length - 1) (0, 0)).1) := by
  obtain ⟨ps, h1, h2⟩ := h
  have hp := List.length_pos_iff.mpr hne
  have hl := h2.len
  obtain ⟨q, e1, e2⟩ := h2.at (getD_some (show vs.length - 1 < vs.length by omega))
  refine ev_ixT (ev_ixL ha hb (sq_of h1) (v := .ref q) ?_) ev_c (st_of e2) rfl
  unfold atI ixN
  rw [List.length_map, if_neg (by omega), if_pos (by omega)]
  show (ps.map V.ref)[((-1 : Int) + (ps.length : Int)).toNat]? = some (.ref q)
  rw [show ((-1 : Int) + (ps.length : Int)).toNat = vs.length - 1 by omega, List.getElem?_map, e1]
  rfl
def RKeptL (C : Addr) (RC RW RK : List V → Hp → V → Prop) (vs : List V) (H : Hp) (v : V) : Prop := ∃ x p l bd vis, vs = [.ref x, .ref p, .ref l] ∧ Mtr C RC RW RK bd vis x H ∧ Vst H p l bd vis ∧ v = .bl true
section
variable {P : Program} {w : World} {K : PySem.W.Frag} {mg : Str → Option Value} {base : Heap}
theorem cal_Lkept {f : Addr} {fd : FuncData} {C : Addr} {RC RW RK : List V → Hp → V → Prop} (T : Blt mg) (t_JarMeter_kept : C8.Met P w K mg base 1 C "kept" (spF RK) []) (F : C8.Def K mg "_law_kept" s_Lkept f fd) (b : Binds K fd ["_law_meter", "_law_bound_here", "_law_visits"] []) : C8.Cal P w K mg base 2 "_law_kept" (spF (RKeptL C RC RW RK)) [] := by
  refine calF F b sc_Lkept (fun vs H v h => ?_) (fun cdv A outer s H vs v E hr h => ?_)
  · obtain ⟨x, p, l, bd, vis, rfl, _⟩ := h
    rfl
  · obtain ⟨x, p, l, bd, vis, rfl, M, S, rfl⟩ := h
    refine ⟨_, (pss_cons (ps_set (i := 3) sc_Lkept.nd rfl (Or.inl rfl) pe_int)
  (pss_cons (ps_if (PW.pt (pw_and (pt_cmpR op_eq (pe_ix ix_tup (pv 1) pe_int (fun _ _ => rfl)) pe_str (nomark _)) (pw_and1 (pt_cmpR (op_neD hr.units) (pv 2) (pe_lst pa_nil) (nomark _)))))
    (pss_one (ps_set (i := 3) sc_Lkept.nd rfl (Or.inl rfl) (pe_callB call_len_seq (by rfl) T.b_len boot_len (pa_cons (pe_lc (own := [("_law_one", 5)]) (g := gName 5) rfl sc_Lkept.nd (pi_list (pv 2)) (blkOk_by (own := [("_law_one", 5)]) (N := ["_law_meter", "_law_bound_here", "_law_visits", "_law_many", "_law_found", "_law_one"]) (sc := C8.fnScope s_Lkept) (by decide +kernel)) (fun _ _ _ _ _ => pg_name (i := 5) sc_Lkept.nd rfl (Or.inl rfl)) (fun _ _ _ _ _ => pts_one (pt_cmpR op_gt (pe_ix (show IxR _ (rIxT K) from ix_tup) (pv 5) pe_int (fun _ _ => rfl)) (pe_op op_sub (pe_ix (show IxR _ (rIxT K) from ix_tup) (pe_ix (show IxR _ (rIxL K) from ix_list) (pv 2) (pe_un un_neg pe_int) (fun _ _ => rfl)) pe_int (fun _ _ => rfl)) (pe_ix (show IxR _ (rIxT K) from ix_tup) (pv 1) pe_int (fun _ _ => rfl))) (nomark _))) (fun _ _ _ _ _ => (pv 5))) pa_nil))))
    pss_nil)
  (pss_cons (ps_set (i := 4) sc_Lkept.nd rfl (Or.inl rfl) (C8.pe_mt0 t_JarMeter_kept hr (by decide) (pv 0)))
  (pss_one (ps_ret (pe_and (pe_callB call_isi (by rfl) T.b_isinstance boot_isinstance (pa_cons (pv 4) (pa_cons (pe_bltn (v := .ty "int") (by rfl) T.b_int boot_int rfl) pa_nil))) (pe_and (pe_not (pe_callB call_isi (by rfl) T.b_isinstance boot_isinstance (pa_cons (pv 4) (pa_cons (pe_bltn (v := .ty "bool") (by rfl) T.b_bool boot_bool rfl) pa_nil)))) (pe_one (pe_chain op_le op_le pe_int (pv 4) (pv 3)))))))))), ?_⟩
    obtain ⟨⟨dx, fs, hx, _, _, l3, _⟩, _, _, ⟨n, mk, hk⟩, _⟩ := M
    have hT : SqT K H p bd.tup := st_of S.hp
    have hP := S.hP
    have fin : ∀ {σ : L2.St} {many : Int}, σ = [some (.ref x), some (.ref p), some (.ref l), some (.int many), none, none] → (n : Int) ≤ many → Rt (tSeq (tAsg (tMeth C "kept" (spF RK) [] C8.E0 (tVar 0) tNil) (gName 4)) (tRet (tAndV (tCB (rIsi K) (tCons (tVar 4) (tCons (tC (.ty "int")) tNil))) (tAndV (tNotV (tCB (rIsi K) (tCons (tVar 4) (tCons (tC (.ty "bool")) tNil)))) (tChain (rI0 fun i j => .bl (decide (i ≤ j))) (rI0 fun i j => .bl (decide (i ≤ j))) (tC (.int 0)) (tVar 4) (tVar 3)))))) σ H (.bl true) := fun {σ many} e hm => by
      subst e
      refine rt_seq (nx_asg (ev_methF (ev_var rfl) hx l3 ea_nil mk)) ?_
      refine rt_ret (ev_is (ev_andV (a := true) (b := true) (ev_isi (ev_var rfl) ev_c (.ty "int") (tyi _) kii) fun _ => ev_is (ev_andV (a := true) (b := true) (ev_notV (a := false) (ev_isi (ev_var rfl) ev_c (.ty "bool") (tyi _) kib)) fun _ => ev_is (ev_chain ev_c (ev_var rfl) rv_I0 (fun _ => ev_var rfl) fun _ => rv_I0) ?_) rfl) rfl)
      rw [decide_eq_true (show (0 : Int) ≤ (n : Int) by omega), decide_eq_true hm]
      rfl
    refine rt_seq (nx_asg ev_c) ?_
    have t0 : ∀ {σ : L2.St}, σ[1]? = some (some (.ref p)) → EvT (tTest (tOp rEq (tOp (rIxT K) (tVar 1) (tC (.int 0))) (tC (.str "window")))) σ H (decide (V.str bd.nm = V.str "window")) := fun a => et_test (ev_op (ev_ixT (ev_var a) ev_c hT (tup0 _)) ev_c (rv_eq rfl))
    cases bd with
    | jar s f =>
      refine rt_seq (nx_if (b := false) (et_is (et_and (a := false) (b := true) (et_is (t0 rfl) djw) fun z => by cases z) rfl) (fun z => by cases z) fun _ => nx_next) ?_
      exact fin rfl hk
    | win m s =>
      by_cases hv : vis = []
      · have hk : (n : Int) ≤ if vis = [] then 0 else _ := hk
        rw [if_pos hv] at hk
        refine rt_seq (nx_if (b := false) (et_is (et_and (a := true) (b := false) (et_is (t0 rfl) dww) fun _ => et_is (et_test (ev_neNilP (ev_var rfl) hP)) (by rw [decide_eq_true hv]; rfl)) rfl) (fun z => by cases z) fun _ => nx_next) ?_
        exact fin rfl hk
      · have hk : (n : Int) ≤ if vis = [] then 0 else _ := hk
        rw [if_neg hv] at hk
        refine rt_seq (nx_if (b := true) (et_is (et_and (a := true) (b := true) (et_is (t0 rfl) dww) fun _ => et_is (et_test (ev_neNilP (ev_var rfl) hP)) (by rw [decide_eq_false hv]; rfl)) rfl) (fun _ => nx_asg (v := .int (((vis.filter fun q => decide (q.1 > (vis.getD (vis.length - 1) (0, 0)).1 - s)).length : Nat) : Int)) ?_) fun z => by cases z) ?_
        · obtain ⟨ps, hl, hps⟩ := id hP
          have hlen := hps.len
          have hn := S.hn
          have ln : (given (ps.map V.ref).length (fun i => decide ((vis.getD i (0, 0)).1 > (vis.getD (vis.length - 1) (0, 0)).1 - s)) (fun i => V.ref (ps.getD i 0))).length = (vis.filter fun q => decide (q.1 > (vis.getD (vis.length - 1) (0, 0)).1 - s)).length := by
            unfold given
            rw [List.length_map, List.length_map, hlen]
            exact filter_range (p := fun q => decide (q.1 > (vis.getD (vis.length - 1) (0, 0)).1 - s)) vis
          rw [← ln]
          refine ev_lenN (el_lcL (xs := ps.map V.ref) _ _ (ev_var rfl) (sq_of hl) (by rw [List.length_map]; omega) (fun y => rfl) (fun i y H1 e1 hy => ?_) (fun i y H1 e1 hy _ => ?_))
          · rw [List.getElem?_map] at hy
            cases hpi : ps[i]? with
            | none => rw [hpi] at hy; cases hy
            | some pi =>
              rw [hpi] at hy
              cases hy
              have hi : i < vis.length := by
                have := (List.getElem?_eq_some_iff.mp hpi).1
                omega
              obtain ⟨pj, e3, e4⟩ := hps.at (getD_some hi)
              rw [hpi] at e3
              cases e3
              exact et_test (ev_op (ev_ixT (ev_var rfl) ev_c (st_of (e1 _ _ e4)) rfl) (ev_op (ev_last0 (ev_var rfl) (ev_un ev_c ru_neg) (hP.mono e1) hv) (ev_ixT (ev_var rfl) ev_c (ex_t e1 hT) (tup2 _)) rv_I0) rv_I0)
          · rw [List.getElem?_map] at hy
            cases hpi : ps[i]? with
            | none => rw [hpi] at hy; cases hy
            | some pi =>
              rw [hpi] at hy
              cases hy
              rw [List.getD_eq_getElem?_getD, hpi]
              exact ev_var rfl
        · exact fin rfl hk
end
/-! the law -/
theorem EvW.go {te : TE} {σ : L2.St} {H : Hp} {W : V → Hp → Prop} {i : Nat} {u : TS} {D : Ends} (h : EvW te σ H W) (k : ∀ v H1, Ex H H1 → W v H1 → u D (σ.set i (some v)) H1) : tSeq (tAsg te (gName i)) u D σ H := h H (Ex.refl H) _ k
theorem evw_methW2 {ta : TE} {σ : L2.St} {H : Hp} {W0 W : V → Hp → Prop} {C : Addr} {m : Str} {R : List V → Hp → (V → Hp → Prop) → Prop} {E : XK} (ha : EvW ta σ H W0) (k : ∀ v H1, Ex H H1 → W0 v H1 → ∃ y dx fs, v = .ref y ∧ H1 y = some (.ins C dx fs) ∧ fs.lookup m = none ∧ ∀ H2, Ex H1 H2 → R [.ref y] H2 W) : EvW (tMeth C m (spW R) [] E ta tNil) σ H W := fun H1 e Q q =>
  ha H1 e _ fun v H2 e2 w0 => by
    obtain ⟨y, dx, fs, rfl, h1, h2, h3⟩ := k v H2 (e.trans e2) w0
    refine ⟨y, dx, fs, rfl, h1, h2, ?_⟩
    show spW R ([V.ref y] ++ []) H2 Q E
    rw [List.append_nil]
    exact ⟨W, h3, fun v H3 e3 w => q v H3 (e2.trans e3) w⟩
/-- what a take leaves as it was: tuples, locked things, the script, the law's visits -/
def Fr (a l : Addr) (ns : List Int) (b : Addr) (o : HO) : Prop := (∃ xs, o = .tup xs) ∨ (∃ q u, o = .frz q u) ∨ (b = l ∧ ∃ xs, o = .lst xs) ∨ (b = a ∧ o = .lst (ns.map V.int))
structure Kind (K : PySem.W.Frag) (a : Addr) (ns : List Int) (cJ cW cB C : Addr) (RM : List V → Hp → (V → Hp → Prop) → Prop) (RC RW RK : List V → Hp → V → Prop) (spT : Sp) (bd : Bd) (Pr : Addr → Hp → Prop) (Tr : List (Int × Int) → Addr → Addr → Hp → Prop) : Prop where
  made : ∀ y H, BdAt cJ cW bd y H → ∃ dx fs, H y = some (.ins cB dx fs) ∧ fs.lookup ("meter" : Str) = none ∧ ∀ H1, Ex H H1 → RM [.ref y] H1 (fun v H2 => ∃ x, v = .ref x ∧ Pr x H2)
  init : ∀ x l H H1, Pr x H → SqL K H a (ns.map V.int) → Ex H H1 → H l = none → H1 l = some (.lst []) → Tr [] x l H1
  mtr : ∀ vs x l H, Tr vs x l H → VOk vs → vs.length ≤ 800 → Mtr C RC RW RK bd vs x H
  mono : ∀ vs x l H H', Ex H H' → Tr vs x l H → Tr vs x l H'
  app : ∀ vs x l H xs ys, Tr vs x l H → H l = some (.lst xs) → Tr vs x l (upd H l (.lst ys))
  take : ∀ vs x l H t c (Q : VK) (E : XK), Tr vs x l H → VOk vs → vs.length ≤ 800 → Upto vs t → 1 ≤ c → ns ≠ [] → (∀ H2, (∀ b o, H b = some o → Fr a l ns b o → H2 b = some o) → Tr (vs ++ [(t, c)]) x l H2 → Q .non H2) → spT [.ref x, .int t, .int c] H Q E
structure LI (K : PySem.W.Frag) (a : Addr) (ns : List Int) (p x l : Addr) (bd : Bd) (Tr : List (Int × Int) → Addr → Addr → Hp → Prop) (vis : List (Int × Int)) (H : Hp) : Prop where
  hS : SqL K H a (ns.map V.int)
  vst : Vst H p l bd vis
  tr : Tr vis x l H
  ok : VOk vis
theorem LI.mono {K : PySem.W.Frag} {a : Addr} {ns : List Int} {cJ cW cB C : Addr} {RM : List V → Hp → (V → Hp → Prop) → Prop} {RC RW RK : List V → Hp → V → Prop} {spT : Sp} {bd : Bd} {Pr : Addr → Hp → Prop} {Tr : List (Int × Int) → Addr → Addr → Hp → Prop} (k : Kind K a ns cJ cW cB C RM RC RW RK spT bd Pr Tr)
    {p x l : Addr} {vis : List (Int × Int)} {H H' : Hp} (e : Ex H H') (h : LI K a ns p x l bd Tr vis H) : LI K a ns p x l bd Tr vis H' := ⟨ex_l e h.hS, h.vst.mono e, k.mono _ _ _ _ _ e h.tr, h.ok⟩
/-- the frame's slots -/
theorem prs_keep {H H' : Hp} {ps : List Addr} {vs : List (Int × Int)} (h : Prs H ps vs) (k : ∀ b xs, H b = some (.tup xs) → H' b = some (.tup xs)) : Prs H' ps vs := by
  induction h with
  | nil => exact .nil
  | cons h1 _ ih => exact .cons (k _ _ h1) ih
def slots (a : Addr) (sc : Int) (p x l : Addr) (mo : Int) (o1 o2 o3 o4 : Option V) : L2.St := [some (.ref a), some (.int sc), some (.ref p), some (.ref x), some (.ref l), some (.int mo), o1, o2, o3, o4]
def bdOf (ns : List Int) : Bd := boundV (cellV ns 1) (scaleV (cellV ns 0))
theorem bdOf_ok (ns : List Int) : (bdOf ns).ok ∧ (∀ s f, bdOf ns = .jar s f → 0 ≤ f ∧ f ≤ 1000000000) := by
  have s := scale_in (cellV ns 0)
  have b := bound_in (cellV_nn ns 1) s.1 s.2
  unfold bdOf
  cases e : boundV (cellV ns 1) (scaleV (cellV ns 0)) with
  | jar m f =>
    rw [e] at b
    exact ⟨⟨b.1, by have : m ≤ 1000000000 := b.2.1; omega, b.2.2.1, b.2.2.2.1⟩, fun s' f' h => by cases h; exact ⟨b.2.2.1, b.2.2.2.1⟩⟩
  | win m s' =>
    rw [e] at b
    exact ⟨⟨b.1, by have : m ≤ 1000000000 := b.2.1; omega, b.2.2.2.2 m s' rfl, by have : s' ≤ 1000000000 := b.2.2.2.1; omega⟩, fun s f h => by cases h⟩
def spLaw (K : PySem.W.Frag) : Sp := fun vs H Q _ => ∃ (a : Addr) (ns : List Int), vs = [.ref a] ∧ SqL K H a (ns.map V.int) ∧ ns.length ≤ 63 ∧ ∀ H', Q (.bl true) H'
theorem rCell {K : PySem.W.Frag} {H : Hp} {a : Addr} {ns : List Int} {k : Int} (hS : SqL K H a (ns.map V.int)) (hl : ns.length ≤ 63) (hk : 0 ≤ k) : ∀ H1, Ex H H1 → RCell K [.ref a, .int k] H1 (.int (cellV ns k)) := fun H1 e => ⟨a, ns, k, rfl, ex_l e hS, hl, hk, rfl⟩
theorem rOne {D : Int → Prop} {f : Int → Int} {H : Hp} {c : Int} (h : D c) : ∀ H1, Ex H H1 → R1 D f [.int c] H1 (.int (f c)) := fun _ _ => ⟨c, rfl, h, rfl⟩
section
variable {P : Program} {w : World} {K : PySem.W.Frag} {mg : Str → Option Value} {base : Heap}
theorem law_body {cdv : Value} {A : Around} {outer : List Env} {s : Shared} {H : Hp} {Q : VK} {E : XK} {ff : Addr} {a : Addr} {ns : List Int} {cJ cW cB C : Addr} {RM : List V → Hp → (V → Hp → Prop) → Prop} {RC RW RK : List V → Hp → V → Prop} {spT : Sp} {Pr : Addr → Hp → Prop} {Tr : List (Int × Int) → Addr → Addr → Hp → Prop} (T : Blt mg)
    (k : Kind K a ns cJ cW cB C RM RC RW RK spT (bdOf ns) Pr Tr) (hr : Room 4 (A.deeper (envOfC "law" (C8.fnScope s_law) s.heap.objs.size ff cdv)))
    (c_Lcell : C8.Cal P w K mg base 1 "_law_cell" (spF (RCell K)) []) (c_Lscale : C8.Cal P w K mg base 1 "_law_scale" (spF (R1 (fun c => 0 ≤ c) scaleV)) []) (c_Lgap : C8.Cal P w K mg base 1 "_law_gap" (spF (R1 (fun c => 0 ≤ c) gapV)) []) (c_Lcost : C8.Cal P w K mg base 1 "_law_cost" (spF (R2' (fun c sc => 0 ≤ c ∧ 1 ≤ sc ∧ sc ≤ 40000000) costV)) [])
    (c_Lbound : C8.Cal P w K mg base 1 "_law_bound" (spW RBound) []) (c_Lmade : C8.Cal P w K mg base 4 "_law_made" (spW (RMade cJ cW)) []) (c_Lwait : C8.Cal P w K mg base 1 "_law_wait" (spF RWaitL) []) (c_Lright : C8.Cal P w K mg base 4 "_law_right" (spF (RRight C RC RW RK)) []) (c_Lkept : C8.Cal P w K mg base 2 "_law_kept" (spF (RKeptL C RC RW RK)) [])
    (t_Jar_meter : C8.Met P w K mg base 3 cB "meter" (spW RM) []) (t_JarMeter_take : C8.Met P w K mg base 2 C "take" spT [])
    (hS : SqL K H a (ns.map V.int)) (hl : ns.length ≤ 63) (q : ∀ H', Q (.bl true) H') :
    ∃ t, PSs (cxOf C8.CX0 P w K mg base ["_law_script", "_law_scale_here", "_law_bound_here", "_law_meter", "_law_visits", "_law_moment", "_law_k", "_law_cell_here", "_law_cost_here", "_law_due"] "law" (C8.fnScope s_law) ff cdv A outer s H E).nox (C8.fnBody s_law) t ∧ t { nx := fun _ H' => Q .non H', rt := Q } (start ["_law_script", "_law_scale_here", "_law_bound_here", "_law_meter", "_law_visits", "_law_moment", "_law_k", "_law_cell_here", "_law_cost_here", "_law_due"] [.ref a]) H := by
  refine ⟨_, (pss_cons (ps_set (i := 1) sc_law.nd rfl (Or.inl rfl) (C8.pe_c c_Lscale hr (by decide) rfl (pa_cons (C8.pe_c c_Lcell hr (by decide) rfl (pa_cons (pv 0) (pa_cons pe_int pa_nil))) pa_nil)))
  (pss_cons (ps_set (i := 2) sc_law.nd rfl (Or.inl rfl) (C8.pe_c c_Lbound hr (by decide) rfl (pa_cons (C8.pe_c c_Lcell hr (by decide) rfl (pa_cons (pv 0) (pa_cons pe_int pa_nil))) (pa_cons (pv 1) pa_nil))))
  (pss_cons (ps_set (i := 3) sc_law.nd rfl (Or.inl rfl) (C8.pe_mt0 t_Jar_meter hr (by decide) (C8.pe_c c_Lmade hr (by decide) rfl (pa_cons (pv 2) pa_nil))))
  (pss_cons (ps_set (i := 4) sc_law.nd rfl (Or.inl rfl) (pe_lst pa_nil))
  (pss_cons (ps_set (i := 5) sc_law.nd rfl (Or.inl rfl) (pe_ix ix_list (pe_lst (pa_cons pe_int (pa_cons (pe_op op_sub (pe_op op_pow pe_int pe_int) (pe_op op_mod (C8.pe_c c_Lcell hr (by decide) rfl (pa_cons (pv 0) (pa_cons pe_int pa_nil))) pe_int)) pa_nil))) (pe_op op_fdiv (pe_op op_mod (C8.pe_c c_Lcell hr (by decide) rfl (pa_cons (pv 0) (pa_cons pe_int pa_nil))) pe_int) pe_int) (fun _ _ => rfl)))
  (pss_cons (ps_for PassesOwn.never rfl (pi_range1 rfl T.b_range (pa_cons (pe_callB (call_min2 rfl) (by rfl) T.b_min boot_min (pa_cons pe_int (pa_cons (pe_callB call_len_seq (by rfl) T.b_len boot_len (pa_cons (pv 0) pa_nil)) pa_nil))) pa_nil)) (pg_name (i := 6) sc_law.nd rfl (Or.inl rfl))
    (pss_cons (ps_set (i := 7) sc_law.nd rfl (Or.inl rfl) (C8.pe_c c_Lcell hr (by decide) rfl (pa_cons (pv 0) (pa_cons (pe_op op_add pe_int (pe_op op_mul pe_int (pv 6))) pa_nil))))
    (pss_cons (ps_set (i := 5) sc_law.nd rfl (Or.inl rfl) (pe_callB (call_min2 rfl) (by rfl) T.b_min boot_min (pa_cons (pe_op op_pow pe_int pe_int) (pa_cons (pe_op op_add (pv 5) (C8.pe_c c_Lgap hr (by decide) rfl (pa_cons (pv 7) pa_nil))) pa_nil))))
    (pss_cons (ps_set (i := 8) sc_law.nd rfl (Or.inl rfl) (C8.pe_c c_Lcost hr (by decide) rfl (pa_cons (C8.pe_c c_Lcell hr (by decide) rfl (pa_cons (pv 0) (pa_cons (pe_op op_add pe_int (pe_op op_mul pe_int (pv 6))) pa_nil))) (pa_cons (pv 1) pa_nil))))
    (pss_cons (ps_if (pt_not (pt_val (C8.pe_c c_Lright hr (by decide) rfl (pa_cons (pv 3) (pa_cons (pv 2) (pa_cons (pv 4) (pa_cons (pv 5) (pa_cons (pv 8) pa_nil))))))))
      (pss_one (ps_ret pe_bl))
      pss_nil)
    (pss_cons (ps_set (i := 9) sc_law.nd rfl (Or.inl rfl) (C8.pe_c c_Lwait hr (by decide) rfl (pa_cons (pv 2) (pa_cons (pv 4) (pa_cons (pv 5) (pa_cons (pv 8) pa_nil))))))
    (pss_cons (ps_if (PW.pt (pw_and (pt_cmp (pc_notN (pv 9))) (pw_and (PW.pt (pw_or (pt_cmpR op_eq (pv 9) pe_int (nomark _)) (pw_or1 (pt_cmpR op_eq (pe_op op_mod (pe_op op_fdiv (pv 7) pe_int) pe_int) pe_int (nomark _))))) (pw_and1 (pt_cmpR op_le (pe_op op_add (pv 5) (pv 9)) (pe_op op_pow pe_int pe_int) (nomark _))))))
      (pss_cons (ps_set (i := 5) sc_law.nd rfl (Or.inl rfl) (pe_op op_add (pv 5) (pv 9)))
      (pss_cons (ps_expr (C8.pe_mt t_JarMeter_take hr (by decide) (pv 3) (pa_cons (pv 5) (pa_cons (pv 8) pa_nil))))
      (pss_one (ps_expr (pe_bm PySem.F.plainAttrs_list PySem.F.slot_list_append PySem.F.type_list_append mt_append (pv 4) (pa_cons (pe_tup (pa_cons (pv 5) (pa_cons (pv 8) pa_nil))) pa_nil))))))
      pss_nil)
    (pss_one (ps_if (pt_not (pt_val (C8.pe_c c_Lkept hr (by decide) rfl (pa_cons (pv 3) (pa_cons (pv 2) (pa_cons (pv 4) pa_nil))))))
      (pss_one (ps_ret pe_bl))
      pss_nil)))))))))
  (pss_one (ps_ret (C8.pe_c c_Lright hr (by decide) rfl (pa_cons (pv 3) (pa_cons (pv 2) (pa_cons (pv 4) (pa_cons (pv 5) (pa_cons pe_int pa_nil)))))))))))))), ?_⟩
  have sc := scale_in (cellV ns 0)
  have bok := bdOf_ok ns
  have cellAt : ∀ {σ : L2.St} {H : Hp} {te : TE} {i : Int}, σ[0]? = some (some (.ref a)) → SqL K H a (ns.map V.int) → Ev te σ H (.int i) → 0 ≤ i → Ev (tCall (spF (RCell K)) [] C8.E0 (tCons (tVar 0) (tCons te tNil))) σ H (.int (cellV ns i)) := fun h0 hS he hi => ev_callF (ea_cons (ev_var h0) (ea_cons he ea_nil)) (rCell hS hl hi)
  -- scale, bound, meter, visits, moment
  refine Nx.go (nx_asg (ev_callF (ea_cons (cellAt rfl hS ev_c (by decide)) ea_nil) (rOne (cellV_nn ns 0)))) fun H1 e1 => ?_
  replace hS := ex_l e1 hS
  refine EvW.go (W := fun v H2 => ∃ p, v = .ref p ∧ H2 p = some (.tup (bdOf ns).tup)) (evw_callW (ea_cons (cellAt rfl hS ev_c (by decide)) (ea_cons (ev_var rfl) ea_nil)) fun H2 e2 => ⟨_, _, rfl, cellV_nn ns 1, sc.1, sc.2, rfl⟩) fun v H2 e2 ⟨p, ev, hp⟩ => ?_
  subst ev
  replace hS := ex_l e2 hS
  refine EvW.go (W := fun v H2 => ∃ x, v = .ref x ∧ Pr x H2) (evw_methW2 (W0 := fun v H3 => ∃ y, v = .ref y ∧ BdAt cJ cW (bdOf ns) y H3) (evw_callW (ea_cons (ev_var rfl) ea_nil) fun H3 e3 => ⟨p, bdOf ns, rfl, e3 _ _ hp, bok.1, rfl⟩) fun v H3 e3 ⟨y, ey, hy⟩ => ?_) fun v H3 e3 ⟨x, ev, hx⟩ => ?_
  · obtain ⟨dx, fs, h1, h2, h3⟩ := k.made y H3 hy
    exact ⟨y, dx, fs, ey, h1, h2, h3⟩
  subst ev
  replace hS := ex_l e3 hS
  replace hp := e3 _ _ hp
  refine q_asgL (D := { nx := _, rt := Q }) (el_lst ea_nil (by decide)) fun l H4 nl e4 hl4 => ?_
  have I0 : LI K a ns p x l (bdOf ns) Tr [] H4 := ⟨ex_l e4 hS, ⟨e4 _ _ hp, ⟨[], hl4, .nil⟩, bok.2, by decide⟩, k.init x l H3 H4 hx hS e4 nl hl4, ⟨fun i h => absurd h (Nat.not_lt_zero _), fun i j _ h => absurd h (Nat.not_lt_zero _)⟩⟩
  have c2 := cellV_nn ns 2
  have c3 := cellV_nn ns 3
  have m0 : 0 ≤ ([0, 1000000000000 - cellV ns 2 % 60] : List Int).getD (cellV ns 3 % 3 / 2).toNat 0 ∧ ([0, 1000000000000 - cellV ns 2 % 60] : List Int).getD (cellV ns 3 % 3 / 2).toNat 0 ≤ 1000000000000 := getD_in _ _ (by
    intro y hy
    simp only [List.mem_cons, List.not_mem_nil, or_false] at hy
    omega) (by simp only [List.length_cons, List.length_nil]; omega)
  refine Nx.go (nx_asg (v := .int (([0, 1000000000000 - cellV ns 2 % 60] : List Int).getD (cellV ns 3 % 3 / 2).toNat 0)) (ev_ixN (i := cellV ns 3 % 3 / 2) (ea_cons ev_c (ea_cons (ev_op (ev_op ev_c ev_c (rv_I ⟨by decide, by decide, by decide⟩)) (ev_op (cellAt rfl I0.hS ev_c (by decide)) ev_c (rv_I (by decide))) rv_I0) ea_nil)) (ev_op (ev_op (cellAt rfl I0.hS ev_c (by decide)) ev_c (rv_I (by decide))) ev_c (rv_I ⟨by decide, by decide⟩)) (by simp only [List.length_cons, List.length_nil]; omega) (atI_disp (.cons (.cons .nil)) (by omega) (by simp only [List.length_cons, List.length_nil]; omega)))) fun H5 e5 => ?_
  replace I0 := I0.mono k e5
  generalize ([0, 1000000000000 - cellV ns 2 % 60] : List Int).getD (cellV ns 3 % 3 / 2).toNat 0 = mo at m0 ⊢
  -- the loop
  refine q_forR1 (n := min 300 (ns.length : Int)) (ea_cons (ev_min ev_c (ev_lenI (K := K) (ev_var rfl) I0.hS)) ea_nil) (by omega) (fun i σ' H' => ∃ vis mo o1 o2 o3 o4, σ' = slots a (scaleV (cellV ns 0)) p x l mo o1 o2 o3 o4 ∧ LI K a ns p x l (bdOf ns) Tr vis H' ∧ Upto vis mo ∧ vis.length ≤ i ∧ 0 ≤ mo ∧ mo ≤ 1000000000000) (fun H6 e6 => ⟨[], mo, none, none, none, none, rfl, I0.mono k e6, fun q hq => (by cases hq), Nat.le_refl _, m0.1, m0.2⟩) (fun i σ H6 hi ⟨vis, mo, o1, o2, o3, o4, hσ, I, hu, hv, b0, b1⟩ => ?_) fun σ H6 ⟨vis, mo, o1, o2, o3, o4, hσ, I, hu, hv, b0, b1⟩ => ?_
  · subst hσ
    have hi2 : i < ns.length := by omega
    have hne : ns ≠ [] := fun z => by
      rw [z] at hi2
      exact absurd hi2 (Nat.not_lt_zero _)
    have hvl : vis.length ≤ 700 := by omega
    have k0 := cellV_nn ns (10 + 3 * (i : Int))
    have g0 := gap_in _ k0
    have cs := cost_in (cellV_nn ns (11 + 3 * (i : Int))) sc.1 sc.2
    refine Nx.go (nx_asg (cellAt (i := 10 + 3 * (i : Int)) rfl I.hS (ev_op ev_c (ev_op ev_c (ev_var rfl) (rv_I (.inl ⟨by decide, by decide⟩))) rv_I0) (by omega))) fun H7 e7 => ?_
    replace I := I.mono k e7
    refine Nx.go (nx_asg (v := .int (min 1000000000000 (mo + gapV (cellV ns (10 + 3 * (i : Int)))))) (ev_min (ev_op ev_c ev_c (rv_I ⟨by decide, by decide, by decide⟩)) (ev_op (ev_var rfl) (ev_callF (ea_cons (ev_var rfl) ea_nil) (rOne k0)) rv_I0))) fun H8 e8 => ?_
    replace I := I.mono k e8
    have hmo : mo ≤ min 1000000000000 (mo + gapV (cellV ns (10 + 3 * (i : Int)))) ∧ min 1000000000000 (mo + gapV (cellV ns (10 + 3 * (i : Int)))) ≤ 1000000000000 := by omega
    generalize min 1000000000000 (mo + gapV (cellV ns (10 + 3 * (i : Int)))) = m1 at hmo ⊢
    have hu1 := upto_le hu hmo.1
    refine Nx.go (nx_asg (v := .int (costV (cellV ns (11 + 3 * (i : Int))) (scaleV (cellV ns 0)))) (ev_callF (ea_cons (cellAt (i := 11 + 3 * (i : Int)) rfl I.hS (ev_op ev_c (ev_op ev_c (ev_var rfl) (rv_I (.inl ⟨by decide, by decide⟩))) rv_I0) (by omega)) (ea_cons (ev_var rfl) ea_nil)) fun H9 _ => ⟨_, _, rfl, ⟨cellV_nn ns _, sc.1, sc.2⟩, rfl⟩)) fun H9 e9 => ?_
    replace I := I.mono k e9
    generalize costV (cellV ns (11 + 3 * (i : Int))) (scaleV (cellV ns 0)) = co at cs ⊢
    have M := k.mtr _ _ _ _ I.tr I.ok (by omega)
    refine Nx.go (nx_if (b := false) (et_not (a := true) (et_B (ev_callF (ea_cons (ev_var rfl) (ea_cons (ev_var rfl) (ea_cons (ev_var rfl) (ea_cons (ev_var rfl) (ea_cons (ev_var rfl) ea_nil))))) fun H10 e10 => ⟨x, p, l, m1, co, bdOf ns, vis, rfl, M.mono e10, I.vst.mono e10, hu1, cs.1, rfl⟩))) (fun z => by cases z) fun _ => nx_next) fun H10 e10 => ?_
    replace I := I.mono k e10
    refine Nx.go (nx_asg (v := opV (dueV (bdOf ns) vis m1 co)) (ev_callF (ea_cons (ev_var rfl) (ea_cons (ev_var rfl) (ea_cons (ev_var rfl) (ea_cons (ev_var rfl) ea_nil)))) (rWaitL I.vst.hp I.vst.hP I.vst.hb (by omega)))) fun H11 e11 => ?_
    replace I := I.mono k e11
    cases hd : dueV (bdOf ns) vis m1 co with
    | none =>
      refine q_when (b := false) (et_is (et_and (a := false) (b := true) (et_B (ev_notN (ev_var (v := .non) rfl))) fun z => by cases z) rfl) (fun z => by cases z) fun _ H12 e12 => ?_
      replace I := I.mono k e12
      refine s_when (b := false) (et_not (a := true) (et_B (ev_callF (ea_cons (ev_var rfl) (ea_cons (ev_var rfl) (ea_cons (ev_var rfl) ea_nil))) fun H13 e13 => ⟨x, p, l, bdOf ns, vis, rfl, (k.mtr _ _ _ _ I.tr I.ok (by omega)).mono e13, I.vst.mono e13, rfl⟩))) (fun z => by cases z) fun _ H13 e13 => ?_
      exact ⟨vis, m1, _, _, _, _, rfl, I.mono k e13, hu1, by omega, by omega, hmo.2⟩
    | some n =>
      obtain ⟨n0, _⟩ := M.after m1 co n hu1 cs.1 hd
      refine q_when (b := true && ((decide (V.int n = V.int 0) || decide (V.int (cellV ns (10 + 3 * (i : Int)) / 7 % 3) = V.int 1)) && decide (m1 + n ≤ 1000000000000))) (et_and (et_B (ev_notN (ev_var (v := .int n) rfl))) fun _ => et_and (et_or (et_test (ev_op (ev_var (v := .int n) rfl) ev_c (rv_eq rfl))) fun _ => et_test (ev_op (ev_op (ev_op (ev_var rfl) ev_c (rv_I ⟨by decide, by decide⟩)) ev_c (rv_I (by decide))) ev_c (rv_eq rfl))) fun _ => et_test (ev_op (ev_op (ev_var rfl) (ev_var (v := .int n) rfl) rv_I0) (ev_op ev_c ev_c (rv_I ⟨by decide, by decide, by decide⟩)) rv_I0)) (fun hb H12 e12 => ?_) fun hb H12 e12 => ?_
      · rw [Bool.true_and, Bool.and_eq_true] at hb
        have hlim : m1 + n ≤ 1000000000000 := of_decide_eq_true hb.2
        replace I := I.mono k e12
        have hu2 : Upto vis (m1 + n) := upto_le hu1 (by omega)
        refine Nx.go (nx_asg (v := .int (m1 + n)) (ev_op (ev_var rfl) (ev_var (v := .int n) rfl) rv_I0)) fun H13 e13 => ?_
        replace I := I.mono k e13
        obtain ⟨⟨dx, fs, hx, _, _, _, l4⟩, _⟩ := k.mtr _ _ _ _ I.tr I.ok (show vis.length ≤ 800 by omega)
        refine ⟨_, rfl, x, dx, fs, rfl, hx, l4, ?_⟩
        refine (ea_cons (ev_var rfl) (ea_cons (ev_var rfl) ea_nil) : EvA _ _ H13 [.int (m1 + n), .int co]) H13 (Ex.refl _) _ fun H14 e14 => ?_
        replace I := I.mono k e14
        refine k.take vis x l H14 (m1 + n) co _ _ I.tr I.ok (by omega) hu2 cs.1 hne fun H15 keep tr15 => ?_
        obtain ⟨ps, hl14, hps14⟩ := I.vst.hP
        have hl15 : H15 l = some (.lst (ps.map V.ref)) := keep _ _ hl14 (.inr (.inr (.inl ⟨rfl, _, rfl⟩)))
        have hps15 : Prs H15 ps vis := prs_keep hps14 fun b xs e => keep _ _ e (.inl ⟨xs, rfl⟩)
        have hS15 : SqL K H15 a (ns.map V.int) := by
          rcases I.hS with (h | ⟨o, h⟩) | h
          · exact .inl (.inl (keep _ _ h (.inr (.inr (.inr ⟨rfl, rfl⟩)))))
          · exact .inl (.inr ⟨o, keep _ _ h (.inr (.inl ⟨_, _, rfl⟩))⟩)
          · exact .inr h
        have hp15 : H15 p = some (.tup (bdOf ns).tup) := keep _ _ I.vst.hp (.inl ⟨_, rfl⟩)
        refine q_appU (ys := [.int (m1 + n), .int co]) hl15 (ev_var rfl) (eu_tup (ea_cons (ev_var rfl) (ea_cons (ev_var rfl) ea_nil)) (by simp only [List.length_cons, List.length_nil]; omega)) (by rw [List.length_map, hps15.len]; omega) fun pn H16 npn e16 hpn => ?_
        have hl16 := e16 _ _ hl15
        have I2 : LI K a ns p x l (bdOf ns) Tr (vis ++ [(m1 + n, co)]) (upd H16 l (.lst (ps.map V.ref ++ [.ref pn]))) := by
          refine ⟨?_, ⟨?_, ⟨ps ++ [pn], ?_, ?_⟩, I.vst.hb, ?_⟩, k.app _ _ _ _ _ _ (k.mono _ _ _ _ _ e16 tr15) hl16, I.ok.snoc hu2 cs.1⟩
          · rcases ex_l e16 hS15 with (h | ⟨o, h⟩) | h
            · refine .inl (.inl ?_)
              rw [upd_ne (fun z => ?_)]
              · exact h
              · rw [z, hl16] at h
                injection h with h
                injection h with h
                cases ns with
                | nil => exact hne rfl
                | cons n0 ns0 =>
                  cases ps with
                  | nil => cases h
                  | cons p0 ps0 =>
                    rw [List.map_cons, List.map_cons] at h
                    injection h with h _
                    cases h
            · refine .inl (.inr ⟨o, ?_⟩)
              rw [upd_ne (ne_of h hl16 (by intro z; cases z))]
              exact h
            · exact .inr h
          · rw [upd_ne (ne_of (e16 _ _ hp15) hl16 (by intro z; cases z))]
            exact e16 _ _ hp15
          · rw [upd_same, List.map_append]
            rfl
          · refine Prs.upd (Prs.snoc (hps15.mono e16) hpn) fun xs z => ?_
            rw [hl16] at z
            cases z
          · rw [List.length_append]
            show vis.length + 1 ≤ 800
            omega
        have hlen2 : (vis ++ [(m1 + n, co)]).length = vis.length + 1 := by rw [List.length_append]; rfl
        refine s_when (b := false) (et_not (a := true) (et_B (ev_callF (ea_cons (ev_var rfl) (ea_cons (ev_var rfl) (ea_cons (ev_var rfl) ea_nil))) fun H13 e13 => ⟨x, p, l, bdOf ns, _, rfl, (k.mtr _ _ _ _ I2.tr I2.ok (by omega)).mono e13, I2.vst.mono e13, rfl⟩))) (fun z => by cases z) fun _ H17 e17 => ?_
        exact ⟨_, m1 + n, _, _, _, _, rfl, I2.mono k e17, upto_snoc hu2, by omega, by omega, hlim⟩
      · replace I := I.mono k e12
        refine s_when (b := false) (et_not (a := true) (et_B (ev_callF (ea_cons (ev_var rfl) (ea_cons (ev_var rfl) (ea_cons (ev_var rfl) ea_nil))) fun H13 e13 => ⟨x, p, l, bdOf ns, vis, rfl, (k.mtr _ _ _ _ I.tr I.ok (by omega)).mono e13, I.vst.mono e13, rfl⟩))) (fun z => by cases z) fun _ H13 e13 => ?_
        exact ⟨vis, m1, _, _, _, _, rfl, I.mono k e13, hu1, by omega, by omega, hmo.2⟩
  · subst hσ
    have hvl : vis.length ≤ 800 := by omega
    refine s_ret (ev_callF (ea_cons (ev_var rfl) (ea_cons (ev_var rfl) (ea_cons (ev_var rfl) (ea_cons (ev_var rfl) (ea_cons ev_c ea_nil))))) fun H7 e7 => ?_) fun H7 e7 => q H7
    exact ⟨x, p, l, mo, 1, bdOf ns, vis, rfl, (k.mtr _ _ _ _ I.tr I.ok hvl).mono e7, I.vst.mono e7, hu, by decide, rfl⟩
end
/-! the two kinds of meters -/
theorem ints_ne {H : Hp} {a l : Addr} {ns : List Int} {rs : List (Int × Int)} (hP : PairsT H l rs) (ha : H a = some (.lst (ns.map V.int))) (hne : ns ≠ []) : a ≠ l := fun z => by
  obtain ⟨ps, h1, _⟩ := hP
  rw [z, h1] at ha
  injection ha with h
  injection h with h
  cases ns with
  | nil => exact hne rfl
  | cons n ns =>
    cases ps with
    | nil => cases h
    | cons p ps =>
      rw [List.map_cons, List.map_cons] at h
      injection h with h _
      cases h
section
variable {K : PySem.W.Frag} {a cJ cW cJM cWM : Addr} {ns : List Int}
theorem kindJ {s f : Int} (hf : 0 ≤ f ∧ f ≤ 1000000000) : Kind K a ns cJ cW cJ cJM (RMetJ cJ cJM) (RCanJ cJM) (RWaitJ cJM) (RKeptJ cJM) (spTakeJ cJM) (.jar s f)
    (fun x H => ∃ dx, H x = some (.ins cJM dx (fJM s f 0 none))) (fun vs x _ H => ∃ dx lv m, H x = some (.ins cJM dx (fJM s f lv m)) ∧ JRel f vs lv m) where
  made := fun y H ⟨dy, h⟩ => ⟨dy, fJar s f, h, rfl, fun H1 e => ⟨y, dy, s, f, rfl, e _ _ h, rfl⟩⟩
  init := fun x l H H1 ⟨dx, h⟩ _ e _ _ => ⟨dx, 0, none, e _ _ h, jrel_nil f⟩
  mtr := fun vs x l H ⟨dx, lv, m, h, r⟩ _ _ => by
    have ok : JOk s f lv m := ⟨hf.1, hf.2, r.mm⟩
    refine ⟨⟨dx, _, h, rfl, rfl, rfl, rfl⟩, fun t c hu hc H1 e => ⟨x, dx, s, f, lv, m, t, c, rfl, e _ _ h, ok, ?_⟩, fun t c hu hc H1 e => ⟨x, dx, s, f, lv, m, t, c, rfl, e _ _ h, ok, ?_⟩, ⟨0, fun H1 e => ⟨x, dx, _, rfl, e _ _ h, rfl⟩, Int.le_refl _⟩, fun t c w hu hc hw => ?_⟩
    · rw [due_jar r hu hf.1]
      exact congrArg V.bl (decide_eq_decide.mpr (wait_can hf.1))
    · rw [due_jar r hu hf.1]
    · rw [due_jar r hu hf.1] at hw
      have nn := wait_nn hf.1 hw
      refine ⟨nn, ?_⟩
      rw [due_jar r (upto_le hu (by omega)) hf.1]
      exact wait_after hf.1 hw
  mono := fun vs x l H H' e ⟨dx, lv, m, h, r⟩ => ⟨dx, lv, m, e _ _ h, r⟩
  app := fun vs x l H xs ys ⟨dx, lv, m, h, r⟩ hl => ⟨dx, lv, m, by
    rw [upd_ne (ne_of h hl (by intro z; cases z))]
    exact h, r⟩
  take := fun vs x l H t c Q E ⟨dx, lv, m, h, r⟩ _ _ hu hc _ q => by
    have ok : JOk s f lv m := ⟨hf.1, hf.2, r.mm⟩
    refine ⟨x, dx, s, f, lv, m, t, c, rfl, h, ok, fun H1 e => q _ (fun b o hb fr => ?_) ⟨dx, _, _, upd_same, jrel_take r hu hc⟩⟩
    have nb : b ≠ x := fun z => by
      rw [z, h] at hb
      injection hb with hb
      subst hb
      rcases fr with ⟨_, z⟩ | ⟨_, _, z⟩ | ⟨_, _, z⟩ | ⟨_, z⟩ <;> cases z
    rw [upd_ne nb]
    exact e _ _ hb
theorem kindW {m s : Int} (hs : 1 ≤ s) : Kind K a ns cJ cW cW cWM (RMetW cW cWM) (RCanW cWM) (RWaitW cWM) (RKeptW cWM) (spTakeW cWM) (.win m s)
    (fun x H => ∃ dx l, H x = some (.ins cWM dx (fWM m s l 0 0)) ∧ H l = some (.lst [])) (fun vs x l H => ∃ dx lst g tot rs, H x = some (.ins cWM dx (fWM m s lst g tot)) ∧ PairsT H lst rs ∧ WRel s vs g tot rs ∧ lst ≠ l) where
  made := fun y H ⟨dy, h⟩ => ⟨dy, fWin m s, h, rfl, fun H1 e => ⟨y, dy, m, s, rfl, e _ _ h, rfl⟩⟩
  init := fun x l H H1 ⟨dx, lst, h, hl⟩ _ e nl _ => ⟨dx, lst, 0, 0, [], e _ _ h, ⟨[], e _ _ hl, .nil⟩, wrel_nil s, ne_of_none hl nl⟩
  mtr := fun vs x l H ⟨dx, lst, g, tot, rs, h, hP, r, _⟩ hv hn => by
    have ok := r.wok hv (by omega)
    refine ⟨⟨dx, _, h, rfl, rfl, rfl, rfl⟩, fun t c hu hc H1 e => ⟨x, dx, m, s, lst, g, tot, rs, t, c, rfl, e _ _ h, hP.mono e, ok, ?_⟩, fun t c hu hc H1 e => ⟨x, dx, m, s, lst, g, tot, rs, t, c, rfl, e _ _ h, hP.mono e, ok, ?_⟩, ⟨rs.length, fun H1 e => ⟨x, dx, m, s, lst, g, tot, rs, rfl, e _ _ h, hP.mono e, rfl⟩, ?_⟩, fun t c w hu hc hw => ?_⟩
    · rw [due_win_is r hv hu hc]
    · rw [due_win_is r hv hu hc]
    · have z := wrel_kept r
      show (rs.length : Int) ≤ if vs = [] then 0 else _
      by_cases hvs : vs = []
      · rw [if_pos hvs]
        rw [hvs] at z
        have z : rs.length ≤ 0 := z
        omega
      · rw [if_neg hvs]
        omega
    · rw [due_win_is r hv hu hc] at hw
      have nn := waitW_nn hw
      refine ⟨nn, ?_⟩
      rw [due_win_is r hv (upto_le hu (by omega)) hc]
      exact waitW_after hw
  mono := fun vs x l H H' e ⟨dx, lst, g, tot, rs, h, hP, r, n⟩ => ⟨dx, lst, g, tot, rs, e _ _ h, hP.mono e, r, n⟩
  app := fun vs x l H xs ys ⟨dx, lst, g, tot, rs, h, ⟨ps, hl1, hps⟩, r, n⟩ hl => ⟨dx, lst, g, tot, rs, by
    rw [upd_ne (ne_of h hl (by intro z; cases z))]
    exact h, ⟨ps, by rw [upd_ne n]; exact hl1, hps.upd fun zs z => by
      rw [hl] at z
      cases z⟩, r, n⟩
  take := fun vs x l H t c Q E ⟨dx, lst, g, tot, rs, h, hP, r, n⟩ hv hn hu hc hne q => by
    have ok := r.wok hv (by omega)
    have hlen : rs.length ≤ 900 := by
      obtain ⟨d, hd, hrs, _⟩ := r.ex
      rw [hrs, List.length_drop, tots_len]
      omega
    refine ⟨x, dx, m, s, lst, g, tot, rs, t, c, rfl, h, hP, hlen, fun H2 keep hx2 hP2 => q H2 (fun b o hb fr => keep b o (fun z => ?_) (fun z => ?_) hb) ⟨dx, lst, _, _, _, hx2, hP2, wrel_take r hv hu hs, n⟩⟩
    · rw [z, h] at hb
      injection hb with hb
      subst hb
      rcases fr with ⟨_, z⟩ | ⟨_, _, z⟩ | ⟨_, _, z⟩ | ⟨_, z⟩ <;> cases z
    · rcases fr with ⟨xs, e⟩ | ⟨q0, u, e⟩ | ⟨e, _⟩ | ⟨e, e2⟩
      · obtain ⟨ps, h1, _⟩ := hP
        rw [z, h1] at hb
        injection hb with hb
        rw [e] at hb
        cases hb
      · obtain ⟨ps, h1, _⟩ := hP
        rw [z, h1] at hb
        injection hb with hb
        rw [e] at hb
        cases hb
      · exact n (z.symm.trans e)
      · subst e2
        rw [e] at hb
        exact ints_ne hP hb hne (e.symm.trans z)
end
section
variable {P : Program} {w : World} {K : PySem.W.Frag} {mg : Str → Option Value} {base : Heap}
theorem ok_law {f cJ cW cJM cWM : Addr} {fd : FuncData} (T : Blt mg) (F : C8.Fun K "law" "law" s_law f fd)
    (c_Lcell : C8.Cal P w K mg base 1 "_law_cell" (spF (RCell K)) []) (c_Lscale : C8.Cal P w K mg base 1 "_law_scale" (spF (R1 (fun c => 0 ≤ c) scaleV)) []) (c_Lgap : C8.Cal P w K mg base 1 "_law_gap" (spF (R1 (fun c => 0 ≤ c) gapV)) []) (c_Lcost : C8.Cal P w K mg base 1 "_law_cost" (spF (R2' (fun c sc => 0 ≤ c ∧ 1 ≤ sc ∧ sc ≤ 40000000) costV)) [])
    (c_Lbound : C8.Cal P w K mg base 1 "_law_bound" (spW RBound) []) (c_Lmade : C8.Cal P w K mg base 4 "_law_made" (spW (RMade cJ cW)) []) (c_Lwait : C8.Cal P w K mg base 1 "_law_wait" (spF RWaitL) [])
    (rJ : C8.Cal P w K mg base 4 "_law_right" (spF (RRight cJM (RCanJ cJM) (RWaitJ cJM) (RKeptJ cJM))) []) (kJ : C8.Cal P w K mg base 2 "_law_kept" (spF (RKeptL cJM (RCanJ cJM) (RWaitJ cJM) (RKeptJ cJM))) [])
    (rW : C8.Cal P w K mg base 4 "_law_right" (spF (RRight cWM (RCanW cWM) (RWaitW cWM) (RKeptW cWM))) []) (kW : C8.Cal P w K mg base 2 "_law_kept" (spF (RKeptL cWM (RCanW cWM) (RWaitW cWM) (RKeptW cWM))) [])
    (mJ : C8.Met P w K mg base 3 cJ "meter" (spW (RMetJ cJ cJM)) []) (tJ : C8.Met P w K mg base 2 cJM "take" (spTakeJ cJM) [])
    (mW : C8.Met P w K mg base 3 cW "meter" (spW (RMetW cW cWM)) []) (tW : C8.Met P w K mg base 2 cWM "take" (spTakeW cWM) []) : FnOk P w K mg base CX0 5 f fd ["_law_script"] (spLaw K) := by
  refine C8.fn0 F sc_law (fun vs H Q E h => ?_) (fun cdv A outer s H vs Q E hr h => ?_)
  · obtain ⟨a, ns, rfl, _⟩ := h
    rfl
  · obtain ⟨a, ns, rfl, hS, hl, q⟩ := h
    have bok := bdOf_ok ns
    cases e : bdOf ns with
    | jar s f =>
      have kd : Kind K a ns cJ cW cJ cJM (RMetJ cJ cJM) (RCanJ cJM) (RWaitJ cJM) (RKeptJ cJM) (spTakeJ cJM) (bdOf ns) (fun x H => ∃ dx, H x = some (.ins cJM dx (fJM s f 0 none))) (fun vs x _ H => ∃ dx lv m, H x = some (.ins cJM dx (fJM s f lv m)) ∧ JRel f vs lv m) := by
        rw [e]
        exact kindJ (bok.2 s f e)
      exact law_body T kd hr c_Lcell c_Lscale c_Lgap c_Lcost c_Lbound c_Lmade c_Lwait rJ kJ mJ tJ hS hl q
    | win m s =>
      have ok := bok.1
      rw [e] at ok
      have kd : Kind K a ns cJ cW cW cWM (RMetW cW cWM) (RCanW cWM) (RWaitW cWM) (RKeptW cWM) (spTakeW cWM) (bdOf ns) (fun x H => ∃ dx l, H x = some (.ins cWM dx (fWM m s l 0 0)) ∧ H l = some (.lst [])) (fun vs x l H => ∃ dx lst g tot rs, H x = some (.ins cWM dx (fWM m s lst g tot)) ∧ PairsT H lst rs ∧ WRel s vs g tot rs ∧ lst ≠ l) := by
        rw [e]
        exact kindW ok.2.2.1
      exact law_body T kd hr c_Lcell c_Lscale c_Lgap c_Lcost c_Lbound c_Lmade c_Lwait rW kW mW tW hS hl q
end

section
theorem all_mk {l : PySem.W.OpenLaw} {w : World} {K : PySem.W.Frag} {h : Heap} {mg : Str → Option Value} {fa : Addr} (X : K.In h) (G : h.Ns mainGlobals mg) (hfa : mg "law" = some (.ref fa))
    {t_LARGEST_SIZE : Tok}
    {t_LARGEST_FLOW : Tok}
    {t_LARGEST_MOST : Tok}
    {t_LARGEST_SPAN : Tok}
    {C_JarMeter : Addr}
    {od1 an1 : Option Addr} {sl1 : Array (Option Value)} {oc1 kV1 dc1 pm1 cd1 ct1 : Value} {f1 : Addr}
    {od2 an2 : Option Addr} {sl2 : Array (Option Value)} {oc2 kV2 dc2 pm2 cd2 ct2 : Value} {f2 : Addr}
    {od3 an3 : Option Addr} {sl3 : Array (Option Value)} {oc3 kV3 dc3 pm3 cd3 ct3 : Value} {f3 : Addr}
    {od4 an4 : Option Addr} {sl4 : Array (Option Value)} {oc4 kV4 dc4 pm4 cd4 ct4 : Value} {f4 : Addr}
    {od5 an5 : Option Addr} {sl5 : Array (Option Value)} {oc5 kV5 dc5 pm5 cd5 ct5 : Value} {f5 : Addr}
    {od6 an6 : Option Addr} {sl6 : Array (Option Value)} {oc6 kV6 dc6 pm6 cd6 ct6 : Value} {f6 : Addr}
    {C_WindowMeter : Addr}
    {od7 an7 : Option Addr} {sl7 : Array (Option Value)} {oc7 kV7 dc7 pm7 cd7 ct7 : Value} {f7 : Addr}
    {od8 an8 : Option Addr} {sl8 : Array (Option Value)} {oc8 kV8 dc8 pm8 cd8 ct8 : Value} {f8 : Addr}
    {od9 an9 : Option Addr} {sl9 : Array (Option Value)} {oc9 kV9 dc9 pm9 cd9 ct9 : Value} {f9 : Addr}
    {od10 an10 : Option Addr} {sl10 : Array (Option Value)} {oc10 kV10 dc10 pm10 cd10 ct10 : Value} {f10 : Addr}
    {od11 an11 : Option Addr} {sl11 : Array (Option Value)} {oc11 kV11 dc11 pm11 cd11 ct11 : Value} {f11 : Addr}
    {od12 an12 : Option Addr} {sl12 : Array (Option Value)} {oc12 kV12 dc12 pm12 cd12 ct12 : Value} {f12 : Addr}
    {C_Jar : Addr}
    {od13 an13 : Option Addr} {sl13 : Array (Option Value)} {oc13 kV13 dc13 pm13 cd13 ct13 : Value} {f13 : Addr}
    {od14 an14 : Option Addr} {sl14 : Array (Option Value)} {oc14 kV14 dc14 pm14 cd14 ct14 : Value} {f14 : Addr}
    {C_Window : Addr}
    {od15 an15 : Option Addr} {sl15 : Array (Option Value)} {oc15 kV15 dc15 pm15 cd15 ct15 : Value} {f15 : Addr}
    {od16 an16 : Option Addr} {sl16 : Array (Option Value)} {oc16 kV16 dc16 pm16 cd16 ct16 : Value} {f16 : Addr}
    {od17 an17 : Option Addr} {sl17 : Array (Option Value)} {oc17 kV17 dc17 pm17 cd17 ct17 : Value} {f17 : Addr}
    {od18 an18 : Option Addr} {sl18 : Array (Option Value)} {oc18 kV18 dc18 pm18 cd18 ct18 : Value} {f18 : Addr}
    {od19 an19 : Option Addr} {sl19 : Array (Option Value)} {oc19 kV19 dc19 pm19 cd19 ct19 : Value} {f19 : Addr}
    {od20 an20 : Option Addr} {sl20 : Array (Option Value)} {oc20 kV20 dc20 pm20 cd20 ct20 : Value} {f20 : Addr}
    {od21 an21 : Option Addr} {sl21 : Array (Option Value)} {oc21 kV21 dc21 pm21 cd21 ct21 : Value} {f21 : Addr}
    {od22 an22 : Option Addr} {sl22 : Array (Option Value)} {oc22 kV22 dc22 pm22 cd22 ct22 : Value} {f22 : Addr}
    {od23 an23 : Option Addr} {sl23 : Array (Option Value)} {oc23 kV23 dc23 pm23 cd23 ct23 : Value} {f23 : Addr}
    {od24 an24 : Option Addr} {sl24 : Array (Option Value)} {oc24 kV24 dc24 pm24 cd24 ct24 : Value} {f24 : Addr}
    {od25 an25 : Option Addr} {sl25 : Array (Option Value)} {oc25 kV25 dc25 pm25 cd25 ct25 : Value} {f25 : Addr}
    {od26 an26 : Option Addr} {sl26 : Array (Option Value)} {oc26 kV26 dc26 pm26 cd26 ct26 : Value} {f26 : Addr}
    {od27 an27 : Option Addr} {sl27 : Array (Option Value)} {oc27 kV27 dc27 pm27 cd27 ct27 : Value} {f27 : Addr}
    {od28 an28 : Option Addr} {sl28 : Array (Option Value)} {oc28 kV28 dc28 pm28 cd28 ct28 : Value} {f28 : Addr}
    {od29 an29 : Option Addr} {sl29 : Array (Option Value)} {oc29 kV29 dc29 pm29 cd29 ct29 : Value} {f29 : Addr}
    (z_len : PySem.W.nsIn K mainGlobals "len" = some none)
    (z_range : PySem.W.nsIn K mainGlobals "range" = some none)
    (z_min : PySem.W.nsIn K mainGlobals "min" = some none)
    (z_max : PySem.W.nsIn K mainGlobals "max" = some none)
    (z_int : PySem.W.nsIn K mainGlobals "int" = some none)
    (z_bool : PySem.W.nsIn K mainGlobals "bool" = some none)
    (z_tuple : PySem.W.nsIn K mainGlobals "tuple" = some none)
    (z_isinstance : PySem.W.nsIn K mainGlobals "isinstance" = some none)
    (g_LARGEST_SIZE : PySem.W.nsIn K mainGlobals "LARGEST_SIZE" = some (some (.int 1000000000000000 t_LARGEST_SIZE)))
    (g_LARGEST_FLOW : PySem.W.nsIn K mainGlobals "LARGEST_FLOW" = some (some (.int 1000000000 t_LARGEST_FLOW)))
    (g_LARGEST_MOST : PySem.W.nsIn K mainGlobals "LARGEST_MOST" = some (some (.int 1000000000000000 t_LARGEST_MOST)))
    (g_LARGEST_SPAN : PySem.W.nsIn K mainGlobals "LARGEST_SPAN" = some (some (.int 1000000000000 t_LARGEST_SPAN)))
    (aC_JarMeter : PySem.W.nsIn K mainGlobals "JarMeter" = some (some (.ref C_JarMeter)))
    (pg_JarMeter : PySem.W.plainGet K C_JarMeter Str.empty = true)
    (hd_JarMeter : PySem.W.hasDictIn K C_JarMeter = true)
    (po_JarMeter : PySem.W.plainOver K C_JarMeter = true)
    (sa_JarMeter : PySem.W.findIn K (.ref C_JarMeter) "__setattr__" = some (some (.builtin "object.__setattr__")))
    (mk_JarMeter : PySem.W.makesIn K C_JarMeter = true)
    (kc_JarMeter : PySem.W.keepIn K (.ref C_JarMeter) = true)
    (n_JarMeter_0 : PySem.W.findIn K (.ref C_JarMeter) "_size" = some none)
    (n_JarMeter_1 : PySem.W.findIn K (.ref C_JarMeter) "_flow" = some none)
    (n_JarMeter_2 : PySem.W.findIn K (.ref C_JarMeter) "_level" = some none)
    (n_JarMeter_3 : PySem.W.findIn K (.ref C_JarMeter) "_moment" = some none)
    (a1 : PySem.W.findIn K (.ref C_JarMeter) "__init__" = some (some (.ref f1)))
    (l1 : K.lookup f1 = some ⟨oc1, od1, .func (PySem.W.fnOf "__init__" "JarMeter.__init__" (C8.fnArgs s_JarMeter_init) (C8.fnBody s_JarMeter_init) (C8.fnScope s_JarMeter_init) .none kV1 dc1 pm1 an1 cd1 ct1), sl1⟩)
    (c1 : PySem.W.codeIn K cd1 "JarMeter.__init__" = true)
    (k1 : PySem.W.keepIn K (.ref f1) = true)
    (i1 : PySem.W.isFn K (.ref f1) = true)
    (a2 : PySem.W.findIn K (.ref C_JarMeter) "can" = some (some (.ref f2)))
    (l2 : K.lookup f2 = some ⟨oc2, od2, .func (PySem.W.fnOf "can" "JarMeter.can" (C8.fnArgs s_JarMeter_can) (C8.fnBody s_JarMeter_can) (C8.fnScope s_JarMeter_can) .none kV2 dc2 pm2 an2 cd2 ct2), sl2⟩)
    (c2 : PySem.W.codeIn K cd2 "JarMeter.can" = true)
    (k2 : PySem.W.keepIn K (.ref f2) = true)
    (i2 : PySem.W.isFn K (.ref f2) = true)
    (a3 : PySem.W.findIn K (.ref C_JarMeter) "wait" = some (some (.ref f3)))
    (l3 : K.lookup f3 = some ⟨oc3, od3, .func (PySem.W.fnOf "wait" "JarMeter.wait" (C8.fnArgs s_JarMeter_wait) (C8.fnBody s_JarMeter_wait) (C8.fnScope s_JarMeter_wait) .none kV3 dc3 pm3 an3 cd3 ct3), sl3⟩)
    (c3 : PySem.W.codeIn K cd3 "JarMeter.wait" = true)
    (k3 : PySem.W.keepIn K (.ref f3) = true)
    (i3 : PySem.W.isFn K (.ref f3) = true)
    (a4 : PySem.W.findIn K (.ref C_JarMeter) "take" = some (some (.ref f4)))
    (l4 : K.lookup f4 = some ⟨oc4, od4, .func (PySem.W.fnOf "take" "JarMeter.take" (C8.fnArgs s_JarMeter_take) (C8.fnBody s_JarMeter_take) (C8.fnScope s_JarMeter_take) .none kV4 dc4 pm4 an4 cd4 ct4), sl4⟩)
    (c4 : PySem.W.codeIn K cd4 "JarMeter.take" = true)
    (k4 : PySem.W.keepIn K (.ref f4) = true)
    (i4 : PySem.W.isFn K (.ref f4) = true)
    (a5 : PySem.W.findIn K (.ref C_JarMeter) "kept" = some (some (.ref f5)))
    (l5 : K.lookup f5 = some ⟨oc5, od5, .func (PySem.W.fnOf "kept" "JarMeter.kept" (C8.fnArgs s_JarMeter_kept) (C8.fnBody s_JarMeter_kept) (C8.fnScope s_JarMeter_kept) .none kV5 dc5 pm5 an5 cd5 ct5), sl5⟩)
    (c5 : PySem.W.codeIn K cd5 "JarMeter.kept" = true)
    (k5 : PySem.W.keepIn K (.ref f5) = true)
    (i5 : PySem.W.isFn K (.ref f5) = true)
    (a6 : PySem.W.findIn K (.ref C_JarMeter) "_level_at" = some (some (.ref f6)))
    (l6 : K.lookup f6 = some ⟨oc6, od6, .func (PySem.W.fnOf "_level_at" "JarMeter._level_at" (C8.fnArgs s_JarMeter__level_at) (C8.fnBody s_JarMeter__level_at) (C8.fnScope s_JarMeter__level_at) .none kV6 dc6 pm6 an6 cd6 ct6), sl6⟩)
    (c6 : PySem.W.codeIn K cd6 "JarMeter._level_at" = true)
    (k6 : PySem.W.keepIn K (.ref f6) = true)
    (i6 : PySem.W.isFn K (.ref f6) = true)
    (aC_WindowMeter : PySem.W.nsIn K mainGlobals "WindowMeter" = some (some (.ref C_WindowMeter)))
    (pg_WindowMeter : PySem.W.plainGet K C_WindowMeter Str.empty = true)
    (hd_WindowMeter : PySem.W.hasDictIn K C_WindowMeter = true)
    (po_WindowMeter : PySem.W.plainOver K C_WindowMeter = true)
    (sa_WindowMeter : PySem.W.findIn K (.ref C_WindowMeter) "__setattr__" = some (some (.builtin "object.__setattr__")))
    (mk_WindowMeter : PySem.W.makesIn K C_WindowMeter = true)
    (kc_WindowMeter : PySem.W.keepIn K (.ref C_WindowMeter) = true)
    (n_WindowMeter_0 : PySem.W.findIn K (.ref C_WindowMeter) "_most" = some none)
    (n_WindowMeter_1 : PySem.W.findIn K (.ref C_WindowMeter) "_span" = some none)
    (n_WindowMeter_2 : PySem.W.findIn K (.ref C_WindowMeter) "_rows" = some none)
    (n_WindowMeter_3 : PySem.W.findIn K (.ref C_WindowMeter) "_gone" = some none)
    (n_WindowMeter_4 : PySem.W.findIn K (.ref C_WindowMeter) "_total" = some none)
    (a7 : PySem.W.findIn K (.ref C_WindowMeter) "__init__" = some (some (.ref f7)))
    (l7 : K.lookup f7 = some ⟨oc7, od7, .func (PySem.W.fnOf "__init__" "WindowMeter.__init__" (C8.fnArgs s_WindowMeter_init) (C8.fnBody s_WindowMeter_init) (C8.fnScope s_WindowMeter_init) .none kV7 dc7 pm7 an7 cd7 ct7), sl7⟩)
    (c7 : PySem.W.codeIn K cd7 "WindowMeter.__init__" = true)
    (k7 : PySem.W.keepIn K (.ref f7) = true)
    (i7 : PySem.W.isFn K (.ref f7) = true)
    (a8 : PySem.W.findIn K (.ref C_WindowMeter) "can" = some (some (.ref f8)))
    (l8 : K.lookup f8 = some ⟨oc8, od8, .func (PySem.W.fnOf "can" "WindowMeter.can" (C8.fnArgs s_WindowMeter_can) (C8.fnBody s_WindowMeter_can) (C8.fnScope s_WindowMeter_can) .none kV8 dc8 pm8 an8 cd8 ct8), sl8⟩)
    (c8 : PySem.W.codeIn K cd8 "WindowMeter.can" = true)
    (k8 : PySem.W.keepIn K (.ref f8) = true)
    (i8 : PySem.W.isFn K (.ref f8) = true)
    (a9 : PySem.W.findIn K (.ref C_WindowMeter) "wait" = some (some (.ref f9)))
    (l9 : K.lookup f9 = some ⟨oc9, od9, .func (PySem.W.fnOf "wait" "WindowMeter.wait" (C8.fnArgs s_WindowMeter_wait) (C8.fnBody s_WindowMeter_wait) (C8.fnScope s_WindowMeter_wait) .none kV9 dc9 pm9 an9 cd9 ct9), sl9⟩)
    (c9 : PySem.W.codeIn K cd9 "WindowMeter.wait" = true)
    (k9 : PySem.W.keepIn K (.ref f9) = true)
    (i9 : PySem.W.isFn K (.ref f9) = true)
    (a10 : PySem.W.findIn K (.ref C_WindowMeter) "take" = some (some (.ref f10)))
    (l10 : K.lookup f10 = some ⟨oc10, od10, .func (PySem.W.fnOf "take" "WindowMeter.take" (C8.fnArgs s_WindowMeter_take) (C8.fnBody s_WindowMeter_take) (C8.fnScope s_WindowMeter_take) .none kV10 dc10 pm10 an10 cd10 ct10), sl10⟩)
    (c10 : PySem.W.codeIn K cd10 "WindowMeter.take" = true)
    (k10 : PySem.W.keepIn K (.ref f10) = true)
    (i10 : PySem.W.isFn K (.ref f10) = true)
    (a11 : PySem.W.findIn K (.ref C_WindowMeter) "kept" = some (some (.ref f11)))
    (l11 : K.lookup f11 = some ⟨oc11, od11, .func (PySem.W.fnOf "kept" "WindowMeter.kept" (C8.fnArgs s_WindowMeter_kept) (C8.fnBody s_WindowMeter_kept) (C8.fnScope s_WindowMeter_kept) .none kV11 dc11 pm11 an11 cd11 ct11), sl11⟩)
    (c11 : PySem.W.codeIn K cd11 "WindowMeter.kept" = true)
    (k11 : PySem.W.keepIn K (.ref f11) = true)
    (i11 : PySem.W.isFn K (.ref f11) = true)
    (a12 : PySem.W.findIn K (.ref C_WindowMeter) "_forget" = some (some (.ref f12)))
    (l12 : K.lookup f12 = some ⟨oc12, od12, .func (PySem.W.fnOf "_forget" "WindowMeter._forget" (C8.fnArgs s_WindowMeter__forget) (C8.fnBody s_WindowMeter__forget) (C8.fnScope s_WindowMeter__forget) .none kV12 dc12 pm12 an12 cd12 ct12), sl12⟩)
    (c12 : PySem.W.codeIn K cd12 "WindowMeter._forget" = true)
    (k12 : PySem.W.keepIn K (.ref f12) = true)
    (i12 : PySem.W.isFn K (.ref f12) = true)
    (aC_Jar : PySem.W.nsIn K mainGlobals "Jar" = some (some (.ref C_Jar)))
    (pg_Jar : PySem.W.plainGet K C_Jar Str.empty = true)
    (hd_Jar : PySem.W.hasDictIn K C_Jar = true)
    (po_Jar : PySem.W.plainOver K C_Jar = true)
    (sa_Jar : PySem.W.findIn K (.ref C_Jar) "__setattr__" = some (some (.builtin "object.__setattr__")))
    (mk_Jar : PySem.W.makesIn K C_Jar = true)
    (kc_Jar : PySem.W.keepIn K (.ref C_Jar) = true)
    (n_Jar_0 : PySem.W.findIn K (.ref C_Jar) "_size" = some none)
    (n_Jar_1 : PySem.W.findIn K (.ref C_Jar) "_flow" = some none)
    (a13 : PySem.W.findIn K (.ref C_Jar) "__init__" = some (some (.ref f13)))
    (l13 : K.lookup f13 = some ⟨oc13, od13, .func (PySem.W.fnOf "__init__" "Jar.__init__" (C8.fnArgs s_Jar_init) (C8.fnBody s_Jar_init) (C8.fnScope s_Jar_init) .none kV13 dc13 pm13 an13 cd13 ct13), sl13⟩)
    (c13 : PySem.W.codeIn K cd13 "Jar.__init__" = true)
    (k13 : PySem.W.keepIn K (.ref f13) = true)
    (i13 : PySem.W.isFn K (.ref f13) = true)
    (a14 : PySem.W.findIn K (.ref C_Jar) "meter" = some (some (.ref f14)))
    (l14 : K.lookup f14 = some ⟨oc14, od14, .func (PySem.W.fnOf "meter" "Jar.meter" (C8.fnArgs s_Jar_meter) (C8.fnBody s_Jar_meter) (C8.fnScope s_Jar_meter) .none kV14 dc14 pm14 an14 cd14 ct14), sl14⟩)
    (c14 : PySem.W.codeIn K cd14 "Jar.meter" = true)
    (k14 : PySem.W.keepIn K (.ref f14) = true)
    (i14 : PySem.W.isFn K (.ref f14) = true)
    (aC_Window : PySem.W.nsIn K mainGlobals "Window" = some (some (.ref C_Window)))
    (pg_Window : PySem.W.plainGet K C_Window Str.empty = true)
    (hd_Window : PySem.W.hasDictIn K C_Window = true)
    (po_Window : PySem.W.plainOver K C_Window = true)
    (sa_Window : PySem.W.findIn K (.ref C_Window) "__setattr__" = some (some (.builtin "object.__setattr__")))
    (mk_Window : PySem.W.makesIn K C_Window = true)
    (kc_Window : PySem.W.keepIn K (.ref C_Window) = true)
    (n_Window_0 : PySem.W.findIn K (.ref C_Window) "_most" = some none)
    (n_Window_1 : PySem.W.findIn K (.ref C_Window) "_span" = some none)
    (a15 : PySem.W.findIn K (.ref C_Window) "__init__" = some (some (.ref f15)))
    (l15 : K.lookup f15 = some ⟨oc15, od15, .func (PySem.W.fnOf "__init__" "Window.__init__" (C8.fnArgs s_Window_init) (C8.fnBody s_Window_init) (C8.fnScope s_Window_init) .none kV15 dc15 pm15 an15 cd15 ct15), sl15⟩)
    (c15 : PySem.W.codeIn K cd15 "Window.__init__" = true)
    (k15 : PySem.W.keepIn K (.ref f15) = true)
    (i15 : PySem.W.isFn K (.ref f15) = true)
    (a16 : PySem.W.findIn K (.ref C_Window) "meter" = some (some (.ref f16)))
    (l16 : K.lookup f16 = some ⟨oc16, od16, .func (PySem.W.fnOf "meter" "Window.meter" (C8.fnArgs s_Window_meter) (C8.fnBody s_Window_meter) (C8.fnScope s_Window_meter) .none kV16 dc16 pm16 an16 cd16 ct16), sl16⟩)
    (c16 : PySem.W.codeIn K cd16 "Window.meter" = true)
    (k16 : PySem.W.keepIn K (.ref f16) = true)
    (i16 : PySem.W.isFn K (.ref f16) = true)
    (a17 : PySem.W.nsIn K mainGlobals "is_within" = some (some (.ref f17)))
    (l17 : K.lookup f17 = some ⟨oc17, od17, .func (PySem.W.fnOf "is_within" "is_within" (C8.fnArgs s_is_within) (C8.fnBody s_is_within) (C8.fnScope s_is_within) .none kV17 dc17 pm17 an17 cd17 ct17), sl17⟩)
    (c17 : PySem.W.codeIn K cd17 "is_within" = true)
    (k17 : PySem.W.keepIn K (.ref f17) = true)
    (a18 : PySem.W.nsIn K mainGlobals "_place_reaching" = some (some (.ref f18)))
    (l18 : K.lookup f18 = some ⟨oc18, od18, .func (PySem.W.fnOf "_place_reaching" "_place_reaching" (C8.fnArgs s_place_reaching) (C8.fnBody s_place_reaching) (C8.fnScope s_place_reaching) .none kV18 dc18 pm18 an18 cd18 ct18), sl18⟩)
    (c18 : PySem.W.codeIn K cd18 "_place_reaching" = true)
    (k18 : PySem.W.keepIn K (.ref f18) = true)
    (a19 : PySem.W.nsIn K mainGlobals "_law_cell" = some (some (.ref f19)))
    (l19 : K.lookup f19 = some ⟨oc19, od19, .func (PySem.W.fnOf "_law_cell" "_law_cell" (C8.fnArgs s_Lcell) (C8.fnBody s_Lcell) (C8.fnScope s_Lcell) .none kV19 dc19 pm19 an19 cd19 ct19), sl19⟩)
    (c19 : PySem.W.codeIn K cd19 "_law_cell" = true)
    (k19 : PySem.W.keepIn K (.ref f19) = true)
    (a20 : PySem.W.nsIn K mainGlobals "_law_bound" = some (some (.ref f20)))
    (l20 : K.lookup f20 = some ⟨oc20, od20, .func (PySem.W.fnOf "_law_bound" "_law_bound" (C8.fnArgs s_Lbound) (C8.fnBody s_Lbound) (C8.fnScope s_Lbound) .none kV20 dc20 pm20 an20 cd20 ct20), sl20⟩)
    (c20 : PySem.W.codeIn K cd20 "_law_bound" = true)
    (k20 : PySem.W.keepIn K (.ref f20) = true)
    (a21 : PySem.W.nsIn K mainGlobals "_law_made" = some (some (.ref f21)))
    (l21 : K.lookup f21 = some ⟨oc21, od21, .func (PySem.W.fnOf "_law_made" "_law_made" (C8.fnArgs s_Lmade) (C8.fnBody s_Lmade) (C8.fnScope s_Lmade) .none kV21 dc21 pm21 an21 cd21 ct21), sl21⟩)
    (c21 : PySem.W.codeIn K cd21 "_law_made" = true)
    (k21 : PySem.W.keepIn K (.ref f21) = true)
    (a22 : PySem.W.nsIn K mainGlobals "_law_wait" = some (some (.ref f22)))
    (l22 : K.lookup f22 = some ⟨oc22, od22, .func (PySem.W.fnOf "_law_wait" "_law_wait" (C8.fnArgs s_Lwait) (C8.fnBody s_Lwait) (C8.fnScope s_Lwait) .none kV22 dc22 pm22 an22 cd22 ct22), sl22⟩)
    (c22 : PySem.W.codeIn K cd22 "_law_wait" = true)
    (k22 : PySem.W.keepIn K (.ref f22) = true)
    (a23 : PySem.W.nsIn K mainGlobals "_law_gap" = some (some (.ref f23)))
    (l23 : K.lookup f23 = some ⟨oc23, od23, .func (PySem.W.fnOf "_law_gap" "_law_gap" (C8.fnArgs s_Lgap) (C8.fnBody s_Lgap) (C8.fnScope s_Lgap) .none kV23 dc23 pm23 an23 cd23 ct23), sl23⟩)
    (c23 : PySem.W.codeIn K cd23 "_law_gap" = true)
    (k23 : PySem.W.keepIn K (.ref f23) = true)
    (a24 : PySem.W.nsIn K mainGlobals "_law_cost" = some (some (.ref f24)))
    (l24 : K.lookup f24 = some ⟨oc24, od24, .func (PySem.W.fnOf "_law_cost" "_law_cost" (C8.fnArgs s_Lcost) (C8.fnBody s_Lcost) (C8.fnScope s_Lcost) .none kV24 dc24 pm24 an24 cd24 ct24), sl24⟩)
    (c24 : PySem.W.codeIn K cd24 "_law_cost" = true)
    (k24 : PySem.W.keepIn K (.ref f24) = true)
    (a25 : PySem.W.nsIn K mainGlobals "_law_scale" = some (some (.ref f25)))
    (l25 : K.lookup f25 = some ⟨oc25, od25, .func (PySem.W.fnOf "_law_scale" "_law_scale" (C8.fnArgs s_Lscale) (C8.fnBody s_Lscale) (C8.fnScope s_Lscale) .none kV25 dc25 pm25 an25 cd25 ct25), sl25⟩)
    (c25 : PySem.W.codeIn K cd25 "_law_scale" = true)
    (k25 : PySem.W.keepIn K (.ref f25) = true)
    (a26 : PySem.W.nsIn K mainGlobals "_law_same" = some (some (.ref f26)))
    (l26 : K.lookup f26 = some ⟨oc26, od26, .func (PySem.W.fnOf "_law_same" "_law_same" (C8.fnArgs s_Lsame) (C8.fnBody s_Lsame) (C8.fnScope s_Lsame) .none kV26 dc26 pm26 an26 cd26 ct26), sl26⟩)
    (c26 : PySem.W.codeIn K cd26 "_law_same" = true)
    (k26 : PySem.W.keepIn K (.ref f26) = true)
    (a27 : PySem.W.nsIn K mainGlobals "_law_right" = some (some (.ref f27)))
    (l27 : K.lookup f27 = some ⟨oc27, od27, .func (PySem.W.fnOf "_law_right" "_law_right" (C8.fnArgs s_Lright) (C8.fnBody s_Lright) (C8.fnScope s_Lright) .none kV27 dc27 pm27 an27 cd27 ct27), sl27⟩)
    (c27 : PySem.W.codeIn K cd27 "_law_right" = true)
    (k27 : PySem.W.keepIn K (.ref f27) = true)
    (a28 : PySem.W.nsIn K mainGlobals "_law_kept" = some (some (.ref f28)))
    (l28 : K.lookup f28 = some ⟨oc28, od28, .func (PySem.W.fnOf "_law_kept" "_law_kept" (C8.fnArgs s_Lkept) (C8.fnBody s_Lkept) (C8.fnScope s_Lkept) .none kV28 dc28 pm28 an28 cd28 ct28), sl28⟩)
    (c28 : PySem.W.codeIn K cd28 "_law_kept" = true)
    (k28 : PySem.W.keepIn K (.ref f28) = true)
    (a29 : PySem.W.nsIn K mainGlobals "law" = some (some (.ref f29)))
    (l29 : K.lookup f29 = some ⟨oc29, od29, .func (PySem.W.fnOf "law" "law" (C8.fnArgs s_law) (C8.fnBody s_law) (C8.fnScope s_law) .none kV29 dc29 pm29 an29 cd29 ct29), sl29⟩)
    (c29 : PySem.W.codeIn K cd29 "law" = true)
    (k29 : PySem.W.keepIn K (.ref f29) = true) :
    ∃ fd : FuncData, (∀ (s : Shared) (v : Value), BindsTo s fd ⟨[v], []⟩ [("_law_script", v)]) ∧ ∀ base : Heap, K.In base → base.Ns mainGlobals mg → FnOk l.prog w K mg base CX0 5 fa fd ["_law_script"] (spLaw K) := by
  have e : f29 = fa := by
    have e := (PySem.W.mg_of X G a29).symm.trans hfa
    injection e with e
    injection e
  subst e
  have T : Blt mg := ⟨PySem.W.mg_none_of X G z_len, PySem.W.mg_none_of X G z_range, PySem.W.mg_none_of X G z_min, PySem.W.mg_none_of X G z_max, PySem.W.mg_none_of X G z_int, PySem.W.mg_none_of X G z_bool, PySem.W.mg_none_of X G z_tuple, PySem.W.mg_none_of X G z_isinstance⟩
  have Gc : Cst mg := ⟨⟨_, PySem.W.mg_of X G g_LARGEST_SIZE, ⟨_, rfl⟩⟩, ⟨_, PySem.W.mg_of X G g_LARGEST_FLOW, ⟨_, rfl⟩⟩, ⟨_, PySem.W.mg_of X G g_LARGEST_MOST, ⟨_, rfl⟩⟩, ⟨_, PySem.W.mg_of X G g_LARGEST_SPAN, ⟨_, rfl⟩⟩⟩
  have cl_JarMeter : Cls K C_JarMeter := ⟨pg_JarMeter, hd_JarMeter, po_JarMeter, sa_JarMeter⟩
  have kl_JarMeter : ClJM K C_JarMeter := ⟨cl_JarMeter, n_JarMeter_0, n_JarMeter_1, n_JarMeter_2, n_JarMeter_3⟩
  have F1 : C8.Fun K "__init__" "JarMeter.__init__" s_JarMeter_init f1 _ := ⟨⟨oc1, od1, .none, kV1, dc1, pm1, an1, cd1, ct1, sl1, rfl, l1, c1⟩⟩
  have b1 : Binds K _ ["self", "size", "flow"] [] := F1.binds rfl (ps := ["self", "size", "flow"]) fun _ _ _ _ _ _ us hl => match us, hl with | [_, _, _], _ => rfl
  have M_JarMeter : Mk K C_JarMeter f1 := ⟨mk_JarMeter, a1, i1, kc_JarMeter⟩
  have mg_JarMeter := PySem.W.mg_of X G aC_JarMeter
  have fn_JarMeter_init := F1
  have bi_JarMeter_init := b1
  have F2 : C8.Fun K "can" "JarMeter.can" s_JarMeter_can f2 _ := ⟨⟨oc2, od2, .none, kV2, dc2, pm2, an2, cd2, ct2, sl2, rfl, l2, c2⟩⟩
  have b2 : Binds K _ ["self", "moment", "cost"] [] := F2.binds rfl (ps := ["self", "moment", "cost"]) fun _ _ _ _ _ _ us hl => match us, hl with | [_, _, _], _ => rfl
  have me_JarMeter_can : Meth K C_JarMeter "can" f2 := ⟨a2, i2, k2⟩
  have fn_JarMeter_can := F2
  have bi_JarMeter_can := b2
  have F3 : C8.Fun K "wait" "JarMeter.wait" s_JarMeter_wait f3 _ := ⟨⟨oc3, od3, .none, kV3, dc3, pm3, an3, cd3, ct3, sl3, rfl, l3, c3⟩⟩
  have b3 : Binds K _ ["self", "moment", "cost"] [] := F3.binds rfl (ps := ["self", "moment", "cost"]) fun _ _ _ _ _ _ us hl => match us, hl with | [_, _, _], _ => rfl
  have me_JarMeter_wait : Meth K C_JarMeter "wait" f3 := ⟨a3, i3, k3⟩
  have fn_JarMeter_wait := F3
  have bi_JarMeter_wait := b3
  have F4 : C8.Fun K "take" "JarMeter.take" s_JarMeter_take f4 _ := ⟨⟨oc4, od4, .none, kV4, dc4, pm4, an4, cd4, ct4, sl4, rfl, l4, c4⟩⟩
  have b4 : Binds K _ ["self", "moment", "cost"] [] := F4.binds rfl (ps := ["self", "moment", "cost"]) fun _ _ _ _ _ _ us hl => match us, hl with | [_, _, _], _ => rfl
  have me_JarMeter_take : Meth K C_JarMeter "take" f4 := ⟨a4, i4, k4⟩
  have fn_JarMeter_take := F4
  have bi_JarMeter_take := b4
  have F5 : C8.Fun K "kept" "JarMeter.kept" s_JarMeter_kept f5 _ := ⟨⟨oc5, od5, .none, kV5, dc5, pm5, an5, cd5, ct5, sl5, rfl, l5, c5⟩⟩
  have b5 : Binds K _ ["self"] [] := F5.binds rfl (ps := ["self"]) fun _ _ _ _ _ _ us hl => match us, hl with | [_], _ => rfl
  have me_JarMeter_kept : Meth K C_JarMeter "kept" f5 := ⟨a5, i5, k5⟩
  have fn_JarMeter_kept := F5
  have bi_JarMeter_kept := b5
  have F6 : C8.Fun K "_level_at" "JarMeter._level_at" s_JarMeter__level_at f6 _ := ⟨⟨oc6, od6, .none, kV6, dc6, pm6, an6, cd6, ct6, sl6, rfl, l6, c6⟩⟩
  have b6 : Binds K _ ["self", "moment"] [] := F6.binds rfl (ps := ["self", "moment"]) fun _ _ _ _ _ _ us hl => match us, hl with | [_, _], _ => rfl
  have me_JarMeter__level_at : Meth K C_JarMeter "_level_at" f6 := ⟨a6, i6, k6⟩
  have fn_JarMeter__level_at := F6
  have bi_JarMeter__level_at := b6
  have cl_WindowMeter : Cls K C_WindowMeter := ⟨pg_WindowMeter, hd_WindowMeter, po_WindowMeter, sa_WindowMeter⟩
  have kl_WindowMeter : ClWM K C_WindowMeter := ⟨cl_WindowMeter, n_WindowMeter_0, n_WindowMeter_1, n_WindowMeter_2, n_WindowMeter_3, n_WindowMeter_4⟩
  have F7 : C8.Fun K "__init__" "WindowMeter.__init__" s_WindowMeter_init f7 _ := ⟨⟨oc7, od7, .none, kV7, dc7, pm7, an7, cd7, ct7, sl7, rfl, l7, c7⟩⟩
  have b7 : Binds K _ ["self", "most", "span"] [] := F7.binds rfl (ps := ["self", "most", "span"]) fun _ _ _ _ _ _ us hl => match us, hl with | [_, _, _], _ => rfl
  have M_WindowMeter : Mk K C_WindowMeter f7 := ⟨mk_WindowMeter, a7, i7, kc_WindowMeter⟩
  have mg_WindowMeter := PySem.W.mg_of X G aC_WindowMeter
  have fn_WindowMeter_init := F7
  have bi_WindowMeter_init := b7
  have F8 : C8.Fun K "can" "WindowMeter.can" s_WindowMeter_can f8 _ := ⟨⟨oc8, od8, .none, kV8, dc8, pm8, an8, cd8, ct8, sl8, rfl, l8, c8⟩⟩
  have b8 : Binds K _ ["self", "moment", "cost"] [] := F8.binds rfl (ps := ["self", "moment", "cost"]) fun _ _ _ _ _ _ us hl => match us, hl with | [_, _, _], _ => rfl
  have me_WindowMeter_can : Meth K C_WindowMeter "can" f8 := ⟨a8, i8, k8⟩
  have fn_WindowMeter_can := F8
  have bi_WindowMeter_can := b8
  have F9 : C8.Fun K "wait" "WindowMeter.wait" s_WindowMeter_wait f9 _ := ⟨⟨oc9, od9, .none, kV9, dc9, pm9, an9, cd9, ct9, sl9, rfl, l9, c9⟩⟩
  have b9 : Binds K _ ["self", "moment", "cost"] [] := F9.binds rfl (ps := ["self", "moment", "cost"]) fun _ _ _ _ _ _ us hl => match us, hl with | [_, _, _], _ => rfl
  have me_WindowMeter_wait : Meth K C_WindowMeter "wait" f9 := ⟨a9, i9, k9⟩
  have fn_WindowMeter_wait := F9
  have bi_WindowMeter_wait := b9
  have F10 : C8.Fun K "take" "WindowMeter.take" s_WindowMeter_take f10 _ := ⟨⟨oc10, od10, .none, kV10, dc10, pm10, an10, cd10, ct10, sl10, rfl, l10, c10⟩⟩
  have b10 : Binds K _ ["self", "moment", "cost"] [] := F10.binds rfl (ps := ["self", "moment", "cost"]) fun _ _ _ _ _ _ us hl => match us, hl with | [_, _, _], _ => rfl
  have me_WindowMeter_take : Meth K C_WindowMeter "take" f10 := ⟨a10, i10, k10⟩
  have fn_WindowMeter_take := F10
  have bi_WindowMeter_take := b10
  have F11 : C8.Fun K "kept" "WindowMeter.kept" s_WindowMeter_kept f11 _ := ⟨⟨oc11, od11, .none, kV11, dc11, pm11, an11, cd11, ct11, sl11, rfl, l11, c11⟩⟩
  have b11 : Binds K _ ["self"] [] := F11.binds rfl (ps := ["self"]) fun _ _ _ _ _ _ us hl => match us, hl with | [_], _ => rfl
  have me_WindowMeter_kept : Meth K C_WindowMeter "kept" f11 := ⟨a11, i11, k11⟩
  have fn_WindowMeter_kept := F11
  have bi_WindowMeter_kept := b11
  have F12 : C8.Fun K "_forget" "WindowMeter._forget" s_WindowMeter__forget f12 _ := ⟨⟨oc12, od12, .none, kV12, dc12, pm12, an12, cd12, ct12, sl12, rfl, l12, c12⟩⟩
  have b12 : Binds K _ ["self", "moment"] [] := F12.binds rfl (ps := ["self", "moment"]) fun _ _ _ _ _ _ us hl => match us, hl with | [_, _], _ => rfl
  have me_WindowMeter__forget : Meth K C_WindowMeter "_forget" f12 := ⟨a12, i12, k12⟩
  have fn_WindowMeter__forget := F12
  have bi_WindowMeter__forget := b12
  have cl_Jar : Cls K C_Jar := ⟨pg_Jar, hd_Jar, po_Jar, sa_Jar⟩
  have kl_Jar : ClJar K C_Jar := ⟨cl_Jar, n_Jar_0, n_Jar_1⟩
  have F13 : C8.Fun K "__init__" "Jar.__init__" s_Jar_init f13 _ := ⟨⟨oc13, od13, .none, kV13, dc13, pm13, an13, cd13, ct13, sl13, rfl, l13, c13⟩⟩
  have b13 : Binds K _ ["self", "size", "flow"] [] := F13.binds rfl (ps := ["self", "size", "flow"]) fun _ _ _ _ _ _ us hl => match us, hl with | [_, _, _], _ => rfl
  have M_Jar : Mk K C_Jar f13 := ⟨mk_Jar, a13, i13, kc_Jar⟩
  have mg_Jar := PySem.W.mg_of X G aC_Jar
  have fn_Jar_init := F13
  have bi_Jar_init := b13
  have F14 : C8.Fun K "meter" "Jar.meter" s_Jar_meter f14 _ := ⟨⟨oc14, od14, .none, kV14, dc14, pm14, an14, cd14, ct14, sl14, rfl, l14, c14⟩⟩
  have b14 : Binds K _ ["self"] [] := F14.binds rfl (ps := ["self"]) fun _ _ _ _ _ _ us hl => match us, hl with | [_], _ => rfl
  have me_Jar_meter : Meth K C_Jar "meter" f14 := ⟨a14, i14, k14⟩
  have fn_Jar_meter := F14
  have bi_Jar_meter := b14
  have cl_Window : Cls K C_Window := ⟨pg_Window, hd_Window, po_Window, sa_Window⟩
  have kl_Window : ClWin K C_Window := ⟨cl_Window, n_Window_0, n_Window_1⟩
  have F15 : C8.Fun K "__init__" "Window.__init__" s_Window_init f15 _ := ⟨⟨oc15, od15, .none, kV15, dc15, pm15, an15, cd15, ct15, sl15, rfl, l15, c15⟩⟩
  have b15 : Binds K _ ["self", "most", "span"] [] := F15.binds rfl (ps := ["self", "most", "span"]) fun _ _ _ _ _ _ us hl => match us, hl with | [_, _, _], _ => rfl
  have M_Window : Mk K C_Window f15 := ⟨mk_Window, a15, i15, kc_Window⟩
  have mg_Window := PySem.W.mg_of X G aC_Window
  have fn_Window_init := F15
  have bi_Window_init := b15
  have F16 : C8.Fun K "meter" "Window.meter" s_Window_meter f16 _ := ⟨⟨oc16, od16, .none, kV16, dc16, pm16, an16, cd16, ct16, sl16, rfl, l16, c16⟩⟩
  have b16 : Binds K _ ["self"] [] := F16.binds rfl (ps := ["self"]) fun _ _ _ _ _ _ us hl => match us, hl with | [_], _ => rfl
  have me_Window_meter : Meth K C_Window "meter" f16 := ⟨a16, i16, k16⟩
  have fn_Window_meter := F16
  have bi_Window_meter := b16
  have F17 : C8.Fun K "is_within" "is_within" s_is_within f17 _ := ⟨⟨oc17, od17, .none, kV17, dc17, pm17, an17, cd17, ct17, sl17, rfl, l17, c17⟩⟩
  have b17 : Binds K _ ["value", "least", "largest"] [] := F17.binds rfl (ps := ["value", "least", "largest"]) fun _ _ _ _ _ _ us hl => match us, hl with | [_, _, _], _ => rfl
  have df_is_within : C8.Def K mg "is_within" s_is_within f17 _ := ⟨F17, PySem.W.mg_of X G a17, k17⟩
  have bi_is_within := b17
  have F18 : C8.Fun K "_place_reaching" "_place_reaching" s_place_reaching f18 _ := ⟨⟨oc18, od18, .none, kV18, dc18, pm18, an18, cd18, ct18, sl18, rfl, l18, c18⟩⟩
  have b18 : Binds K _ ["rows", "total"] [] := F18.binds rfl (ps := ["rows", "total"]) fun _ _ _ _ _ _ us hl => match us, hl with | [_, _], _ => rfl
  have df_place_reaching : C8.Def K mg "_place_reaching" s_place_reaching f18 _ := ⟨F18, PySem.W.mg_of X G a18, k18⟩
  have bi_place_reaching := b18
  have F19 : C8.Fun K "_law_cell" "_law_cell" s_Lcell f19 _ := ⟨⟨oc19, od19, .none, kV19, dc19, pm19, an19, cd19, ct19, sl19, rfl, l19, c19⟩⟩
  have b19 : Binds K _ ["_law_script", "_law_k"] [] := F19.binds rfl (ps := ["_law_script", "_law_k"]) fun _ _ _ _ _ _ us hl => match us, hl with | [_, _], _ => rfl
  have df_Lcell : C8.Def K mg "_law_cell" s_Lcell f19 _ := ⟨F19, PySem.W.mg_of X G a19, k19⟩
  have bi_Lcell := b19
  have F20 : C8.Fun K "_law_bound" "_law_bound" s_Lbound f20 _ := ⟨⟨oc20, od20, .none, kV20, dc20, pm20, an20, cd20, ct20, sl20, rfl, l20, c20⟩⟩
  have b20 : Binds K _ ["_law_cell_here", "_law_scale_here"] [] := F20.binds rfl (ps := ["_law_cell_here", "_law_scale_here"]) fun _ _ _ _ _ _ us hl => match us, hl with | [_, _], _ => rfl
  have df_Lbound : C8.Def K mg "_law_bound" s_Lbound f20 _ := ⟨F20, PySem.W.mg_of X G a20, k20⟩
  have bi_Lbound := b20
  have F21 : C8.Fun K "_law_made" "_law_made" s_Lmade f21 _ := ⟨⟨oc21, od21, .none, kV21, dc21, pm21, an21, cd21, ct21, sl21, rfl, l21, c21⟩⟩
  have b21 : Binds K _ ["_law_bound_here"] [] := F21.binds rfl (ps := ["_law_bound_here"]) fun _ _ _ _ _ _ us hl => match us, hl with | [_], _ => rfl
  have df_Lmade : C8.Def K mg "_law_made" s_Lmade f21 _ := ⟨F21, PySem.W.mg_of X G a21, k21⟩
  have bi_Lmade := b21
  have F22 : C8.Fun K "_law_wait" "_law_wait" s_Lwait f22 _ := ⟨⟨oc22, od22, .none, kV22, dc22, pm22, an22, cd22, ct22, sl22, rfl, l22, c22⟩⟩
  have b22 : Binds K _ ["_law_bound_here", "_law_visits", "_law_moment", "_law_cost_here"] [] := F22.binds rfl (ps := ["_law_bound_here", "_law_visits", "_law_moment", "_law_cost_here"]) fun _ _ _ _ _ _ us hl => match us, hl with | [_, _, _, _], _ => rfl
  have df_Lwait : C8.Def K mg "_law_wait" s_Lwait f22 _ := ⟨F22, PySem.W.mg_of X G a22, k22⟩
  have bi_Lwait := b22
  have F23 : C8.Fun K "_law_gap" "_law_gap" s_Lgap f23 _ := ⟨⟨oc23, od23, .none, kV23, dc23, pm23, an23, cd23, ct23, sl23, rfl, l23, c23⟩⟩
  have b23 : Binds K _ ["_law_cell_here"] [] := F23.binds rfl (ps := ["_law_cell_here"]) fun _ _ _ _ _ _ us hl => match us, hl with | [_], _ => rfl
  have df_Lgap : C8.Def K mg "_law_gap" s_Lgap f23 _ := ⟨F23, PySem.W.mg_of X G a23, k23⟩
  have bi_Lgap := b23
  have F24 : C8.Fun K "_law_cost" "_law_cost" s_Lcost f24 _ := ⟨⟨oc24, od24, .none, kV24, dc24, pm24, an24, cd24, ct24, sl24, rfl, l24, c24⟩⟩
  have b24 : Binds K _ ["_law_cell_here", "_law_scale_here"] [] := F24.binds rfl (ps := ["_law_cell_here", "_law_scale_here"]) fun _ _ _ _ _ _ us hl => match us, hl with | [_, _], _ => rfl
  have df_Lcost : C8.Def K mg "_law_cost" s_Lcost f24 _ := ⟨F24, PySem.W.mg_of X G a24, k24⟩
  have bi_Lcost := b24
  have F25 : C8.Fun K "_law_scale" "_law_scale" s_Lscale f25 _ := ⟨⟨oc25, od25, .none, kV25, dc25, pm25, an25, cd25, ct25, sl25, rfl, l25, c25⟩⟩
  have b25 : Binds K _ ["_law_cell_here"] [] := F25.binds rfl (ps := ["_law_cell_here"]) fun _ _ _ _ _ _ us hl => match us, hl with | [_], _ => rfl
  have df_Lscale : C8.Def K mg "_law_scale" s_Lscale f25 _ := ⟨F25, PySem.W.mg_of X G a25, k25⟩
  have bi_Lscale := b25
  have F26 : C8.Fun K "_law_same" "_law_same" s_Lsame f26 _ := ⟨⟨oc26, od26, .none, kV26, dc26, pm26, an26, cd26, ct26, sl26, rfl, l26, c26⟩⟩
  have b26 : Binds K _ ["_law_found", "_law_due"] [] := F26.binds rfl (ps := ["_law_found", "_law_due"]) fun _ _ _ _ _ _ us hl => match us, hl with | [_, _], _ => rfl
  have df_Lsame : C8.Def K mg "_law_same" s_Lsame f26 _ := ⟨F26, PySem.W.mg_of X G a26, k26⟩
  have bi_Lsame := b26
  have F27 : C8.Fun K "_law_right" "_law_right" s_Lright f27 _ := ⟨⟨oc27, od27, .none, kV27, dc27, pm27, an27, cd27, ct27, sl27, rfl, l27, c27⟩⟩
  have b27 : Binds K _ ["_law_meter", "_law_bound_here", "_law_visits", "_law_moment", "_law_cost_here"] [] := F27.binds rfl (ps := ["_law_meter", "_law_bound_here", "_law_visits", "_law_moment", "_law_cost_here"]) fun _ _ _ _ _ _ us hl => match us, hl with | [_, _, _, _, _], _ => rfl
  have df_Lright : C8.Def K mg "_law_right" s_Lright f27 _ := ⟨F27, PySem.W.mg_of X G a27, k27⟩
  have bi_Lright := b27
  have F28 : C8.Fun K "_law_kept" "_law_kept" s_Lkept f28 _ := ⟨⟨oc28, od28, .none, kV28, dc28, pm28, an28, cd28, ct28, sl28, rfl, l28, c28⟩⟩
  have b28 : Binds K _ ["_law_meter", "_law_bound_here", "_law_visits"] [] := F28.binds rfl (ps := ["_law_meter", "_law_bound_here", "_law_visits"]) fun _ _ _ _ _ _ us hl => match us, hl with | [_, _, _], _ => rfl
  have df_Lkept : C8.Def K mg "_law_kept" s_Lkept f28 _ := ⟨F28, PySem.W.mg_of X G a28, k28⟩
  have bi_Lkept := b28
  have F29 : C8.Fun K "law" "law" s_law f29 _ := ⟨⟨oc29, od29, .none, kV29, dc29, pm29, an29, cd29, ct29, sl29, rfl, l29, c29⟩⟩
  have b29 : Binds K _ ["_law_script"] [] := F29.binds rfl (ps := ["_law_script"]) fun _ _ _ _ _ _ us hl => match us, hl with | [_], _ => rfl
  have df_law : C8.Def K mg "law" s_law f29 _ := ⟨F29, PySem.W.mg_of X G a29, k29⟩
  have bi_law := b29
  refine ⟨PySem.W.fnOf "law" "law" (C8.fnArgs s_law) (C8.fnBody s_law) (C8.fnScope s_law) .none kV29 dc29 pm29 an29 cd29 ct29, fun s v => .of_eq rfl, fun base _ _ => ?_⟩
  have c_is := cal_is_within (P := l.prog) (w := w) (base := base) (mg := mg) T df_is_within bi_is_within
  have lvl := met_JarMeter__level_at (P := l.prog) (w := w) (base := base) (mg := mg) T kl_JarMeter me_JarMeter__level_at fn_JarMeter__level_at bi_JarMeter__level_at
  have canJ := met_JarMeter_can (P := l.prog) (w := w) (base := base) (mg := mg) kl_JarMeter lvl me_JarMeter_can fn_JarMeter_can bi_JarMeter_can
  have waitJ := met_JarMeter_wait (P := l.prog) (w := w) (base := base) (mg := mg) kl_JarMeter lvl me_JarMeter_wait fn_JarMeter_wait bi_JarMeter_wait
  have keptJ := met_JarMeter_kept (P := l.prog) (w := w) (base := base) (mg := mg) kl_JarMeter me_JarMeter_kept fn_JarMeter_kept bi_JarMeter_kept
  have takeJ := met_JarMeter_take (P := l.prog) (w := w) (base := base) (mg := mg) kl_JarMeter lvl me_JarMeter_take fn_JarMeter_take bi_JarMeter_take
  have makJM := mak_JarMeter (P := l.prog) (w := w) (base := base) (mg := mg) kl_JarMeter M_JarMeter mg_JarMeter fn_JarMeter_init bi_JarMeter_init
  have pr := cal_place_reaching (P := l.prog) (w := w) (base := base) (mg := mg) T df_place_reaching bi_place_reaching
  have waitW := met_WindowMeter_wait (P := l.prog) (w := w) (base := base) (mg := mg) T kl_WindowMeter pr me_WindowMeter_wait fn_WindowMeter_wait bi_WindowMeter_wait
  have canW := met_WindowMeter_can (P := l.prog) (w := w) (base := base) (mg := mg) kl_WindowMeter waitW me_WindowMeter_can fn_WindowMeter_can bi_WindowMeter_can
  have keptW := met_WindowMeter_kept (P := l.prog) (w := w) (base := base) (mg := mg) T kl_WindowMeter me_WindowMeter_kept fn_WindowMeter_kept bi_WindowMeter_kept
  have frg := met_WindowMeter__forget (P := l.prog) (w := w) (base := base) (mg := mg) T kl_WindowMeter me_WindowMeter__forget fn_WindowMeter__forget bi_WindowMeter__forget
  have takeW := met_WindowMeter_take (P := l.prog) (w := w) (base := base) (mg := mg) kl_WindowMeter frg me_WindowMeter_take fn_WindowMeter_take bi_WindowMeter_take
  have makWM := mak_WindowMeter (P := l.prog) (w := w) (base := base) (mg := mg) kl_WindowMeter M_WindowMeter mg_WindowMeter fn_WindowMeter_init bi_WindowMeter_init
  have makJ := mak_Jar (P := l.prog) (w := w) (base := base) (mg := mg) Gc kl_Jar c_is M_Jar mg_Jar fn_Jar_init bi_Jar_init
  have makW := mak_Window (P := l.prog) (w := w) (base := base) (mg := mg) Gc kl_Window c_is M_Window mg_Window fn_Window_init bi_Window_init
  have metJ := met_Jar_meter (P := l.prog) (w := w) (base := base) (mg := mg) kl_Jar makJM me_Jar_meter fn_Jar_meter bi_Jar_meter
  have metW := met_Window_meter (P := l.prog) (w := w) (base := base) (mg := mg) kl_Window makWM me_Window_meter fn_Window_meter bi_Window_meter
  have cell := cal_Lcell (P := l.prog) (w := w) (base := base) (mg := mg) T df_Lcell bi_Lcell
  have scl := cal_Lscale (P := l.prog) (w := w) (base := base) (mg := mg) df_Lscale bi_Lscale
  have gap := cal_Lgap (P := l.prog) (w := w) (base := base) (mg := mg) df_Lgap bi_Lgap
  have cst := cal_Lcost (P := l.prog) (w := w) (base := base) (mg := mg) T df_Lcost bi_Lcost
  have bnd := cal_Lbound (P := l.prog) (w := w) (base := base) (mg := mg) T df_Lbound bi_Lbound
  have made := cal_Lmade (P := l.prog) (w := w) (base := base) (mg := mg) makJ makW df_Lmade bi_Lmade
  have wai := cal_Lwait (P := l.prog) (w := w) (base := base) (mg := mg) T df_Lwait bi_Lwait
  have same := cal_Lsame (P := l.prog) (w := w) (base := base) (mg := mg) T df_Lsame bi_Lsame
  have rJ := cal_Lright (P := l.prog) (w := w) (base := base) (mg := mg) (RK := RKeptJ C_JarMeter) T (metMono (by decide) canJ) (metMono (by decide) waitJ) wai same df_Lright bi_Lright
  have rW := cal_Lright (P := l.prog) (w := w) (base := base) (mg := mg) (RK := RKeptW C_WindowMeter) T (metMono (by decide) canW) (metMono (by decide) waitW) wai same df_Lright bi_Lright
  have kJ := cal_Lkept (P := l.prog) (w := w) (base := base) (mg := mg) (RC := RCanJ C_JarMeter) (RW := RWaitJ C_JarMeter) T keptJ df_Lkept bi_Lkept
  have kW := cal_Lkept (P := l.prog) (w := w) (base := base) (mg := mg) (RC := RCanW C_WindowMeter) (RW := RWaitW C_WindowMeter) T keptW df_Lkept bi_Lkept
  exact ok_law T df_law.fn cell scl gap cst bnd made wai rJ kJ rW kW metJ takeJ metW takeW
theorem walk {l : PySem.W.OpenLaw} {q : Program} {loose : List Str} {XP : (Str → Option Value) → Heap → Prop} {YP : World → Heap → Prop} {d : DefRec} {K : Params → PySem.W.Frag} (hn : l.most = some 63) (hdf : d.params.defaults = [])
    (hY : ∀ (w : World) (h : Heap), YP w h → (K w.params).In h)
    (F : ∀ (w : World) (mg : Str → Option Value) (fa : Addr) (h : Heap), (K w.params).In h → h.Ns mainGlobals mg → mg d.name = some (.ref fa) →
      ∃ fd : FuncData, (∀ (s : Shared) (u : Value), BindsTo s fd ⟨[u], []⟩ [("_law_script", u)]) ∧ ∀ base : Heap, (K w.params).In base → base.Ns mainGlobals mg → FnOk l.prog w (K w.params) mg base CX0 5 fa fd ["_law_script"] (spLaw (K w.params))) :
    PySem.W.WalkO q loose XP YP l.row.toRowW d [] (fun f vs => PySem.call f vs) :=
  L2.walk_of (n := 63) (k := 5) (x := "_law_script") (CX := fun _ => CX0) (sp := fun w => spLaw (K w.params)) hn (by decide) hdf ⟨rfl, by decide, by decide⟩ hY F (fun _ _ a ns hl _ hS => ⟨a, ns, rfl, hS, hl, fun _ => rfl⟩) fun _ _ _ _ _ z => z
end
end Tk
open PySem PySem.W PyProof.Rows
set_option maxRecDepth 100000 in
set_option maxHeartbeats 0 in
theorem PySem.Challenge.cw_turnstile_k04_whole_meters_by_stretches_holds : PySem.Challenge.rw_turnstile_k04_whole_meters_by_stretches.Holds := by
  w_on; o_law; k_head; (case hw => w_witness2)
  k_fill
  refine Tk.walk (l := PySem.Challenge.rw_turnstile_k04_whole_meters_by_stretches) rfl rfl (fun w h Y => PySem.W.kIn_of Y) ?F
  case F =>
    intro w mg fa h KX G hmg
    refine' Tk.all_mk KX G hmg ?z_len ?z_range ?z_min ?z_max ?z_int ?z_bool ?z_tuple ?z_isinstance ?g_LARGEST_SIZE ?g_LARGEST_FLOW ?g_LARGEST_MOST ?g_LARGEST_SPAN ?aC_JarMeter ?pg_JarMeter ?hd_JarMeter ?po_JarMeter ?sa_JarMeter ?mk_JarMeter ?kc_JarMeter ?n_JarMeter_0 ?n_JarMeter_1 ?n_JarMeter_2 ?n_JarMeter_3 ?a1 ?l1 ?c1 ?k1 ?i1 ?a2 ?l2 ?c2 ?k2 ?i2 ?a3 ?l3 ?c3 ?k3 ?i3 ?a4 ?l4 ?c4 ?k4 ?i4 ?a5 ?l5 ?c5 ?k5 ?i5 ?a6 ?l6 ?c6 ?k6 ?i6 ?aC_WindowMeter ?pg_WindowMeter ?hd_WindowMeter ?po_WindowMeter ?sa_WindowMeter ?mk_WindowMeter ?kc_WindowMeter ?n_WindowMeter_0 ?n_WindowMeter_1 ?n_WindowMeter_2 ?n_WindowMeter_3 ?n_WindowMeter_4 ?a7 ?l7 ?c7 ?k7 ?i7 ?a8 ?l8 ?c8 ?k8 ?i8 ?a9 ?l9 ?c9 ?k9 ?i9 ?a10 ?l10 ?c10 ?k10 ?i10 ?a11 ?l11 ?c11 ?k11 ?i11 ?a12 ?l12 ?c12 ?k12 ?i12 ?aC_Jar ?pg_Jar ?hd_Jar ?po_Jar ?sa_Jar ?mk_Jar ?kc_Jar ?n_Jar_0 ?n_Jar_1 ?a13 ?l13 ?c13 ?k13 ?i13 ?a14 ?l14 ?c14 ?k14 ?i14 ?aC_Window ?pg_Window ?hd_Window ?po_Window ?sa_Window ?mk_Window ?kc_Window ?n_Window_0 ?n_Window_1 ?a15 ?l15 ?c15 ?k15 ?i15 ?a16 ?l16 ?c16 ?k16 ?i16 ?a17 ?l17 ?c17 ?k17 ?a18 ?l18 ?c18 ?k18 ?a19 ?l19 ?c19 ?k19 ?a20 ?l20 ?c20 ?k20 ?a21 ?l21 ?c21 ?k21 ?a22 ?l22 ?c22 ?k22 ?a23 ?l23 ?c23 ?k23 ?a24 ?l24 ?c24 ?k24 ?a25 ?l25 ?c25 ?k25 ?a26 ?l26 ?c26 ?k26 ?a27 ?l27 ?c27 ?k27 ?a28 ?l28 ?c28 ?k28 ?a29 ?l29 ?c29 ?k29
    (case z_len => k_is)
    (case z_range => k_is)
    (case z_min => k_is)
    (case z_max => k_is)
    (case z_int => k_is)
    (case z_bool => k_is)
    (case z_tuple => k_is)
    (case z_isinstance => k_is)
    (case g_LARGEST_SIZE => k_is)
    (case g_LARGEST_FLOW => k_is)
    (case g_LARGEST_MOST => k_is)
    (case g_LARGEST_SPAN => k_is)
    (case aC_JarMeter => k_is)
    (case pg_JarMeter => k_is)
    (case hd_JarMeter => k_is)
    (case po_JarMeter => k_is)
    (case sa_JarMeter => k_is)
    (case mk_JarMeter => k_is)
    (case kc_JarMeter => k_is)
    (case n_JarMeter_0 => k_is)
    (case n_JarMeter_1 => k_is)
    (case n_JarMeter_2 => k_is)
    (case n_JarMeter_3 => k_is)
    (case a1 => k_is)
    (case l1 => k_is)
    (case c1 => k_is)
    (case k1 => k_is)
    (case i1 => k_is)
    (case a2 => k_is)
    (case l2 => k_is)
    (case c2 => k_is)
    (case k2 => k_is)
    (case i2 => k_is)
    (case a3 => k_is)
    (case l3 => k_is)
    (case c3 => k_is)
    (case k3 => k_is)
    (case i3 => k_is)
    (case a4 => k_is)
    (case l4 => k_is)
    (case c4 => k_is)
    (case k4 => k_is)
    (case i4 => k_is)
    (case a5 => k_is)
    (case l5 => k_is)
    (case c5 => k_is)
    (case k5 => k_is)
    (case i5 => k_is)
    (case a6 => k_is)
    (case l6 => k_is)
    (case c6 => k_is)
    (case k6 => k_is)
    (case i6 => k_is)
    (case aC_WindowMeter => k_is)
    (case pg_WindowMeter => k_is)
    (case hd_WindowMeter => k_is)
    (case po_WindowMeter => k_is)
    (case sa_WindowMeter => k_is)
    (case mk_WindowMeter => k_is)
    (case kc_WindowMeter => k_is)
    (case n_WindowMeter_0 => k_is)
    (case n_WindowMeter_1 => k_is)
    (case n_WindowMeter_2 => k_is)
    (case n_WindowMeter_3 => k_is)
    (case n_WindowMeter_4 => k_is)
    (case a7 => k_is)
    (case l7 => k_is)
    (case c7 => k_is)
    (case k7 => k_is)
    (case i7 => k_is)
    (case a8 => k_is)
    (case l8 => k_is)
    (case c8 => k_is)
    (case k8 => k_is)
    (case i8 => k_is)
    (case a9 => k_is)
    (case l9 => k_is)
    (case c9 => k_is)
    (case k9 => k_is)
    (case i9 => k_is)
    (case a10 => k_is)
    (case l10 => k_is)
    (case c10 => k_is)
    (case k10 => k_is)
    (case i10 => k_is)
    (case a11 => k_is)
    (case l11 => k_is)
    (case c11 => k_is)
    (case k11 => k_is)
    (case i11 => k_is)
    (case a12 => k_is)
    (case l12 => k_is)
    (case c12 => k_is)
    (case k12 => k_is)
    (case i12 => k_is)
    (case aC_Jar => k_is)
    (case pg_Jar => k_is)
    (case hd_Jar => k_is)
    (case po_Jar => k_is)
    (case sa_Jar => k_is)
    (case mk_Jar => k_is)
    (case kc_Jar => k_is)
    (case n_Jar_0 => k_is)
    (case n_Jar_1 => k_is)
    (case a13 => k_is)
    (case l13 => k_is)
    (case c13 => k_is)
    (case k13 => k_is)
    (case i13 => k_is)
    (case a14 => k_is)
    (case l14 => k_is)
    (case c14 => k_is)
    (case k14 => k_is)
    (case i14 => k_is)
    (case aC_Window => k_is)
    (case pg_Window => k_is)
    (case hd_Window => k_is)
    (case po_Window => k_is)
    (case sa_Window => k_is)
    (case mk_Window => k_is)
    (case kc_Window => k_is)
    (case n_Window_0 => k_is)
    (case n_Window_1 => k_is)
    (case a15 => k_is)
    (case l15 => k_is)
    (case c15 => k_is)
    (case k15 => k_is)
    (case i15 => k_is)
    (case a16 => k_is)
    (case l16 => k_is)
    (case c16 => k_is)
    (case k16 => k_is)
    (case i16 => k_is)
    (case a17 => k_is)
    (case l17 => k_is)
    (case c17 => k_is)
    (case k17 => k_is)
    (case a18 => k_is)
    (case l18 => k_is)
    (case c18 => k_is)
    (case k18 => k_is)
    (case a19 => k_is)
    (case l19 => k_is)
    (case c19 => k_is)
    (case k19 => k_is)
    (case a20 => k_is)
    (case l20 => k_is)
    (case c20 => k_is)
    (case k20 => k_is)
    (case a21 => k_is)
    (case l21 => k_is)
    (case c21 => k_is)
    (case k21 => k_is)
    (case a22 => k_is)
    (case l22 => k_is)
    (case c22 => k_is)
    (case k22 => k_is)
    (case a23 => k_is)
    (case l23 => k_is)
    (case c23 => k_is)
    (case k23 => k_is)
    (case a24 => k_is)
    (case l24 => k_is)
    (case c24 => k_is)
    (case k24 => k_is)
    (case a25 => k_is)
    (case l25 => k_is)
    (case c25 => k_is)
    (case k25 => k_is)
    (case a26 => k_is)
    (case l26 => k_is)
    (case c26 => k_is)
    (case k26 => k_is)
    (case a27 => k_is)
    (case l27 => k_is)
    (case c27 => k_is)
    (case k27 => k_is)
    (case a28 => k_is)
    (case l28 => k_is)
    (case c28 => k_is)
    (case k28 => k_is)
    (case a29 => k_is)
    (case l29 => k_is)
    (case c29 => k_is)
    (case k29 => k_is)
#print axioms PySem.Challenge.cw_turnstile_k04_whole_meters_by_stretches_holds
