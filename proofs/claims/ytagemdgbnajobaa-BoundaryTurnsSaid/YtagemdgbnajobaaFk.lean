/- The numbers and the reader. -/
import Derived.Test.YtagemdgbnajobaaKeep
