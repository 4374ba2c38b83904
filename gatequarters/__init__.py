"""gatequarters: can any town around notice that a quarter was rebuilt?"""
